/-
  PROVED HERE: what the model's CellText answers at every cell: its line, or nothing; nothing that was in memory is turned.
-/
import Derived.Test.YtggmjiddadjilaqDoorCellTB
namespace Go.Proofs.YtggmjiddadjilaqDoor
open Go.RowKit

theorem elevenC {w : World} {g : Nat} {x0 x1 x2 x3 x4 x5 x6 x7 x8 x9 x10 : Value} {t : TypeId} (h : w.heap[g]? = some (.cells #[x0, x1, x2, x3, x4, x5, x6, x7, x8, x9, x10] t)) :
    w.cell? ⟨g, 0, none⟩ = some x0 ∧ w.cell? ⟨g, 1, none⟩ = some x1 ∧ w.cell? ⟨g, 2, none⟩ = some x2 ∧ w.cell? ⟨g, 3, none⟩ = some x3 ∧ w.cell? ⟨g, 4, none⟩ = some x4 ∧ w.cell? ⟨g, 5, none⟩ = some x5 ∧ w.cell? ⟨g, 6, none⟩ = some x6 ∧ w.cell? ⟨g, 7, none⟩ = some x7 ∧ w.cell? ⟨g, 8, none⟩ = some x8 ∧ w.cell? ⟨g, 9, none⟩ = some x9 ∧ w.cell? ⟨g, 10, none⟩ = some x10 :=
  ⟨Joins.cell_of_block h 0, Joins.cell_of_block h 1, Joins.cell_of_block h 2, Joins.cell_of_block h 3, Joins.cell_of_block h 4, Joins.cell_of_block h 5, Joins.cell_of_block h 6, Joins.cell_of_block h 7, Joins.cell_of_block h 8, Joins.cell_of_block h 9, Joins.cell_of_block h 10⟩
set_option maxRecDepth 100000 in
set_option maxHeartbeats 400000 in
theorem specl12Brd (a b : Int) (hok : brdOkB a b = true) (w : World) :
    Calls Tryd.prog 29 #[.agg #[.int .i64 a, .int .i64 b]] w fun e w' => e = .returned (.string (txtB a b)) ∧ Below w.heap.size w w' := by
  have hmx : Tryd.prog.follows .mixedOrders = true := by kernel_rfl
  obtain ⟨⟨a0, a4⟩, b0, b3⟩ := brd_range hok
  have HT : Hid (txtB a b = dg a ++ dg b) := by show _ = _; rw [txtB, if_pos hok]
  have HA := Hid.intro (fun W => digits_any a a0 a4 W)
  have HB := Hid.intro (fun W => digits_any b b0 (by omega) W)
  have hsz : ¬ 9223372036854775807 < (dg a).size + (dg b).size := by rw [dg_size, dg_size]; omega
  generalize hda : dg a = da at HA HT hsz
  generalize hdb : dg b = db at HB HT hsz
  clear hda hdb
  go_enter Tryd.func29, Tryd.ntmps29
  go_upto_region 1 with fail
  obtain ⟨W0, hW0⟩ : ∃ W0, W0 = w.alloc (.cells #[.int .i64 a, .int .i64 b] 28) := ⟨_, rfl⟩
  have X0 : W0.heap[w.heap.size]? = some (.cells #[.int .i64 a, .int .i64 b] 28) := by rw [hW0]; exact newestB _ _
  have z0 := (Array.getElem?_eq_some_iff.1 X0).1
  have K0 : Hid (Below w.heap.size w W0) := by rw [hW0]; exact k_alloc (Below.refl _ _) _
  have c0 := Joins.cell_of_block X0 0
  have c1 := Joins.cell_of_block X0 1
  rw [← hW0]
  clear hW0 X0
  have KA := Hid.intro (fun (p : BW W0) => bw_of (HA.out p.u))
  have KB := Hid.intro (fun (p : BW W0) => bw_of (HB.out p.u))
  have hne := bw_some W0
  have m0 : ∀ p : BW W0, p.u.cell? ⟨w.heap.size, 0, none⟩ = some (.int .i64 a) := bw_cell (a := ⟨w.heap.size, 0, none⟩) z0 c0
  have m1 : ∀ p : BW W0, p.u.cell? ⟨w.heap.size, 1, none⟩ = some (.int .i64 b) := bw_cell (a := ⟨w.heap.size, 1, none⟩) z0 c1
  clear c0 c1 HA HB
  refine wp_region_quiet_below hmx (by kernel_rfl) ?_
  repeat (go_big_quiet_step (first | (go_at_call_of 28 (a : Int); refine KA.out _) | (go_at_call_of 28 (b : Int); refine KB.out _)))
  refine wpQuiet_nil ?_
  intro W4 hw'
  obtain ⟨⟨Wx, hW4⟩, hw''⟩ := hw'
  subst hw''
  go_wp2
  go_ret
  exact ⟨by rw [HT.out]; rfl, k_trans K0.out hW4⟩

set_option maxRecDepth 100000 in
set_option maxHeartbeats 1000000 in
theorem specl12Cell (x : C) (hok : cB x = true) (w : World) :
    Calls Tryd.prog 13 #[.agg #[.string x.s, .int .i64 x.c, .int .i64 x.r, .int .i64 x.a1, .int .i64 x.b1, .int .i64 x.a2, .int .i64 x.b2, .int .i64 x.a3, .int .i64 x.b3, .int .i64 x.a4, .int .i64 x.b4]] w fun e w' => e = .returned (.string (cellX x)) ∧ Below w.heap.size w w' := by
  have hmx : Tryd.prog.follows .mixedOrders = true := by kernel_rfl
  obtain ⟨hc, hr, h1, h2, h3, h4, hs⟩ := cB_parts hok
  have HC := Hid.intro (fun W => digits_any x.c (by omega) hc.2 W)
  have HR := Hid.intro (fun W => digits_any x.r (by omega) hr.2 W)
  have H1 := Hid.intro (fun W => specl12Brd x.a1 x.b1 h1 W)
  have H2 := Hid.intro (fun W => specl12Brd x.a2 x.b2 h2 W)
  have H3 := Hid.intro (fun W => specl12Brd x.a3 x.b3 h3 W)
  have H4 := Hid.intro (fun W => specl12Brd x.a4 x.b4 h4 W)
  have hdc : (dg x.c).size = 1 := rfl
  have hdr : (dg x.r).size = 1 := rfl
  have z1 := txtB_size h1
  have z2 := txtB_size h2
  have z3 := txtB_size h3
  have z4 := txtB_size h4
  have HT : Hid (cellX x = (⟨#[99, 101, 108, 108, 32]⟩ : ByteArray) ++ dg x.c ++ ⟨#[32]⟩ ++ dg x.r ++ ⟨#[32]⟩ ++ txtB x.a1 x.b1 ++ ⟨#[32]⟩ ++ txtB x.a2 x.b2 ++ ⟨#[32]⟩ ++ txtB x.a3 x.b3 ++ ⟨#[32]⟩ ++ txtB x.a4 x.b4 ++ ⟨#[32]⟩ ++ x.s) := rfl
  clear h1 h2 h3 h4 hok
  obtain ⟨s, c, r, a1, b1, a2, b2, a3, b3, a4, b4⟩ := x
  simp only at HC HR H1 H2 H3 H4 hdc hdr z1 z2 z3 z4 hs HT ⊢
  generalize dg c = dc at HC hdc HT
  generalize dg r = dr at HR hdr HT
  generalize txtB a1 b1 = t1 at H1 z1 HT
  generalize txtB a2 b2 = t2 at H2 z2 HT
  generalize txtB a3 b3 = t3 at H3 z3 HT
  generalize txtB a4 b4 = t4 at H4 z4 HT
  have hsz : ¬ 9223372036854775807 < 21 + s.size := by omega
  generalize hcx : cellX ⟨s, c, r, a1, b1, a2, b2, a3, b3, a4, b4⟩ = cx at HT ⊢
  clear hcx hc hr
  go_enter Tryd.func13, Tryd.ntmps13
  go_upto_region 1 with fail
  obtain ⟨W0, hW0⟩ : ∃ W0, W0 = w.alloc (.cells #[.string s, .int .i64 c, .int .i64 r, .int .i64 a1, .int .i64 b1, .int .i64 a2, .int .i64 b2, .int .i64 a3, .int .i64 b3, .int .i64 a4, .int .i64 b4] 30) := ⟨_, rfl⟩
  have X0 : W0.heap[w.heap.size]? = some (.cells #[.string s, .int .i64 c, .int .i64 r, .int .i64 a1, .int .i64 b1, .int .i64 a2, .int .i64 b2, .int .i64 a3, .int .i64 b3, .int .i64 a4, .int .i64 b4] 30) := by rw [hW0]; exact newestB _ _
  have z0 := (Array.getElem?_eq_some_iff.1 X0).1
  have K0 : Hid (Below w.heap.size w W0) := by rw [hW0]; exact k_alloc (Below.refl _ _) _
  obtain ⟨c0, c1, c2, c3, c4, c5, c6, c7, c8, c9, c10⟩ := elevenC X0
  rw [← hW0]
  clear hW0 X0
  have KC := Hid.intro (fun (p : BW W0) => bw_of (HC.out p.u))
  have KR := Hid.intro (fun (p : BW W0) => bw_of (HR.out p.u))
  have K1 := Hid.intro (fun (p : BW W0) => bw_of (H1.out p.u))
  have K2 := Hid.intro (fun (p : BW W0) => bw_of (H2.out p.u))
  have K3 := Hid.intro (fun (p : BW W0) => bw_of (H3.out p.u))
  have K4 := Hid.intro (fun (p : BW W0) => bw_of (H4.out p.u))
  have hne := bw_some W0
  have m0 := bw_cell (a := ⟨w.heap.size, 0, none⟩) z0 c0
  have m1 := bw_cell (a := ⟨w.heap.size, 1, none⟩) z0 c1
  have m2 := bw_cell (a := ⟨w.heap.size, 2, none⟩) z0 c2
  have m3 := bw_cell (a := ⟨w.heap.size, 3, none⟩) z0 c3
  have m4 := bw_cell (a := ⟨w.heap.size, 4, none⟩) z0 c4
  have m5 := bw_cell (a := ⟨w.heap.size, 5, none⟩) z0 c5
  have m6 := bw_cell (a := ⟨w.heap.size, 6, none⟩) z0 c6
  have m7 := bw_cell (a := ⟨w.heap.size, 7, none⟩) z0 c7
  have m8 := bw_cell (a := ⟨w.heap.size, 8, none⟩) z0 c8
  have m9 := bw_cell (a := ⟨w.heap.size, 9, none⟩) z0 c9
  have m10 := bw_cell (a := ⟨w.heap.size, 10, none⟩) z0 c10
  clear c0 c1 c2 c3 c4 c5 c6 c7 c8 c9 c10 HC HR H1 H2 H3 H4
  refine wp_region_quiet_below hmx (by kernel_rfl) ?_
  repeat (go_big_quiet_step (first | (go_at_call_of 28 (c : Int); refine KC.out _) | (go_at_call_of 28 (r : Int); refine KR.out _) | (go_at_call_of 29 (a1 : Int); refine K1.out _) | (go_at_call_of 29 (a2 : Int); refine K2.out _) | (go_at_call_of 29 (a3 : Int); refine K3.out _) | (go_at_call_of 29 (a4 : Int); refine K4.out _)))
  refine wpQuiet_nil ?_
  intro W4 hw'
  obtain ⟨⟨Wx, hW4⟩, hw''⟩ := hw'
  subst hw''
  go_wp2
  go_ret
  exact ⟨by rw [HT.out]; rfl, k_trans K0.out hW4⟩

set_option maxRecDepth 100000 in
set_option maxHeartbeats 1000000 in
theorem specCellText (x : C) (hs : x.s.size ≤ maxLen) (w : World) :
    Calls Tryd.prog 6 #[.agg #[.string x.s, .int .i64 x.c, .int .i64 x.r, .int .i64 x.a1, .int .i64 x.b1, .int .i64 x.a2, .int .i64 x.b2, .int .i64 x.a3, .int .i64 x.b3, .int .i64 x.a4, .int .i64 x.b4]] w fun e w' => e = .returned (.string (cellT x)) ∧ Below w.heap.size w w' := by
  have KO := Hid.intro (fun W => specCellOk x.s x.c x.r x.a1 x.b1 x.a2 x.b2 x.a3 x.b3 x.a4 x.b4 W hs)
  have X0 := newestB w (.cells #[.string x.s, .int .i64 x.c, .int .i64 x.r, .int .i64 x.a1, .int .i64 x.b1, .int .i64 x.a2, .int .i64 x.b2, .int .i64 x.a3, .int .i64 x.b3, .int .i64 x.a4, .int .i64 x.b4] 30)
  have K0 := Hid.intro (k_alloc (Below.refl w.heap.size w) (.cells #[.string x.s, .int .i64 x.c, .int .i64 x.r, .int .i64 x.a1, .int .i64 x.b1, .int .i64 x.a2, .int .i64 x.b2, .int .i64 x.a3, .int .i64 x.b3, .int .i64 x.a4, .int .i64 x.b4] 30))
  have hcb : cB x = cellOkB x.s x.c x.r x.a1 x.b1 x.a2 x.b2 x.a3 x.b3 x.a4 x.b4 := rfl
  rw [← hcb] at KO
  clear hcb
  cases hok : cB x with
  | false =>
    rw [hok] at KO
    have HT : Hid (cellT x = ⟨#[]⟩) := Hid.intro (by rw [cellT, if_neg (by rw [hok]; simp)])
    go_enter Tryd.func6, Tryd.ntmps6
    go_wp2_with fail
    refine (KO.out _).mono ?_
    rintro e w1 ⟨rfl, hb1⟩
    have K1 := Hid.intro (k_trans K0.out hb1)
    clear hb1 X0
    go_wp2
    go_ret
    exact ⟨by rw [HT.out]; rfl, K1.out⟩
  | true =>
    rw [hok] at KO
    have HT : Hid (cellT x = cellX x) := Hid.intro (by rw [cellT, if_pos hok])
    have KL := Hid.intro (fun W => specl12Cell x hok W)
    go_enter Tryd.func6, Tryd.ntmps6
    go_wp2_with fail
    refine (KO.out _).mono ?_
    rintro e w1 ⟨rfl, hb1⟩
    have X1 := (hb1.block _ (Array.getElem?_eq_some_iff.1 X0).1).trans X0
    have K1 := Hid.intro (k_trans K0.out hb1)
    obtain ⟨c0, c1, c2, c3, c4, c5, c6, c7, c8, c9, c10⟩ := elevenC X1
    clear hb1 X0 X1
    go_wp2_with fail
    refine (KL.out _).mono ?_
    rintro e w2 ⟨rfl, hb2⟩
    have K2 := Hid.intro (k_trans K1.out hb2)
    clear hb2 c0 c1 c2 c3 c4 c5 c6 c7 c8 c9 c10
    go_wp2
    go_ret
    exact ⟨by rw [HT.out]; rfl, K2.out⟩
end Go.Proofs.YtggmjiddadjilaqDoor
