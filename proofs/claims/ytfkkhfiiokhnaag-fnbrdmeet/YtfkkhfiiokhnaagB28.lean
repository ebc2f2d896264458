/-
  PROVED HERE: the model's l8Cell is a cell of a drawn table's grid, as it stands in its table; nothing that was in memory is turned. Also: lists of borders that a call owns; what meets, case by case. Also: the model's l8Across at a drawn table's grid is the border that is shown; nothing that was in memory is turned.
-/
import Derived.Test.YtfkkhfiiokhnaagB25
import Derived.Test.YtfkkhfiiokhnaagB22
import Derived.Test.YtfkkhfiiokhnaagB6
import Derived.Test.YtfkkhfiiokhnaagB24
import Derived.Test.YtfkkhfiiokhnaagB23
import Derived.Test.YtfkkhfiiokhnaagB12
import Derived.Deep.DeepCutAuto
import Derived.Deep.RegionWith
import Derived.Deep.QuietTactic
import Derived.BigQuiet
import Derived.Laws.AppendOwn
namespace Go.Proofs.Ytfkkhfiiokhnaag
open Go.RowKit Go.BigFrame

set_option maxRecDepth 100000 in
set_option maxHeartbeats 2000000 in
theorem specl8Cell (ac ar ag : Option Addr) (cc cr cg : Nat) (t : T) (hD : Drawn t) (k : Nat) (hk : k < (gOf t).cells.length) (w : World) {z zg : Nat} (hr : RowsAt w z (.slice ar t.rows.length cr) t.rows) (hG : GsAt w zg (.slice ag (gOf t).cells.length cg) (gOf t).cells) :
    Calls Try.prog 71 #[.agg #[.slice ac t.cols.length cc, .int .i64 t.head, .int .i64 t.foot, .slice ar t.rows.length cr, .int .i64 t.gap], .agg #[.int .i64 (gOf t).rows, .int .i64 (gOf t).cols, .slice ag (gOf t).cells.length cg], .int .i64 (k : Int)] w fun e w' => e = .returned (.agg #[.string (cellN t (k : Int)).s, .int .i64 (cellN t (k : Int)).c, .int .i64 (cellN t (k : Int)).r, .int .i64 (cellN t (k : Int)).a1, .int .i64 (cellN t (k : Int)).b1, .int .i64 (cellN t (k : Int)).a2, .int .i64 (cellN t (k : Int)).b2, .int .i64 (cellN t (k : Int)).a3, .int .i64 (cellN t (k : Int)).b3, .int .i64 (cellN t (k : Int)).a4, .int .i64 (cellN t (k : Int)).b4]) ∧ Below w.heap.size w w' := by
  have hmx : Try.prog.follows .mixedOrders = true := by kernel_rfl
  obtain ⟨h40, C, hgc, hC88, hcel⟩ := cel_of hD
  obtain ⟨rn, jn, cn, mn, e1, e2, _, _, h1, h2, _, _, _⟩ := (hcel k hk).ex
  have HTx : Hid (cellN t (k : Int) = (t.rows.getD rn dR).cells.getD jn dC) := by rw [Hid, cellN, if_neg (by omega), Int.toNat_natCast, cellAt, e1, e2, Int.toNat_natCast, Int.toNat_natCast]
  clear hgc
  obtain ⟨W, hW0⟩ : ∃ W, ((w.alloc (.cells #[.slice ac t.cols.length cc, .int .i64 t.head, .int .i64 t.foot, .slice ar t.rows.length cr, .int .i64 t.gap] 49)).alloc (.cells #[.int .i64 (gOf t).rows, .int .i64 (gOf t).cols, .slice ag (gOf t).cells.length cg] 56)).alloc (.cells #[.string ⟨#[]⟩, .int .i64 0, .int .i64 0, .int .i64 0, .int .i64 0, .int .i64 0, .int .i64 0, .int .i64 0, .int .i64 0, .int .i64 0, .int .i64 0] 89) = W := ⟨_, rfl⟩
  have K3 : Below w.heap.size w W := by rw [← hW0]; exact k_alloc (k_alloc (k_alloc (Below.refl _ _) _) _) _
  have X0 : W.heap[w.heap.size]? = some (.cells #[.slice ac t.cols.length cc, .int .i64 t.head, .int .i64 t.foot, .slice ar t.rows.length cr, .int .i64 t.gap] 49) := by rw [← hW0]; exact more (more (newest _ _) _) _
  have X1 : W.heap[w.heap.size + 1]? = some (.cells #[.int .i64 (gOf t).rows, .int .i64 (gOf t).cols, .slice ag (gOf t).cells.length cg] 56) := by rw [← hW0]; exact more (newest1 _ _ _) _
  have X3 : W.heap[w.heap.size + 1 + 1]? = some (.cells #[.string ⟨#[]⟩, .int .i64 0, .int .i64 0, .int .i64 0, .int .i64 0, .int .i64 0, .int .i64 0, .int .i64 0, .int .i64 0, .int .i64 0, .int .i64 0] 89) := by
    have h := newest ((w.alloc (.cells #[.slice ac t.cols.length cc, .int .i64 t.head, .int .i64 t.foot, .slice ar t.rows.length cr, .int .i64 t.gap] 49)).alloc (.cells #[.int .i64 (gOf t).rows, .int .i64 (gOf t).cols, .slice ag (gOf t).cells.length cg] 56)) (.cells #[.string ⟨#[]⟩, .int .i64 0, .int .i64 0, .int .i64 0, .int .i64 0, .int .i64 0, .int .i64 0, .int .i64 0, .int .i64 0, .int .i64 0, .int .i64 0] 89)
    rw [show ((w.alloc (.cells #[.slice ac t.cols.length cc, .int .i64 t.head, .int .i64 t.foot, .slice ar t.rows.length cr, .int .i64 t.gap] 49)).alloc (.cells #[.int .i64 (gOf t).rows, .int .i64 (gOf t).cols, .slice ag (gOf t).cells.length cg] 56)).heap.size = w.heap.size + 1 + 1 by simp, hW0] at h
    exact h
  obtain ⟨gb, goff, gcap, ge, gc1, gc2, gbl, gx, _⟩ := At.get (hG.kept K3) hk
  simp only [Value.slice.injEq, true_and] at ge
  obtain ⟨rfl, rfl⟩ := ge
  obtain ⟨x0, x1, x2, x3, x4⟩ := gx
  rw [e1] at x0
  rw [e2] at x4
  obtain ⟨rb, roff, rcap, re, rc1, rc2, rbl, u, hu0, _, hu⟩ := At.get (hr.kept K3) h1
  simp only [Value.slice.injEq, true_and] at re
  obtain ⟨rfl, rfl⟩ := re
  obtain ⟨qb, qoff, qcap, qe, qc1, qc2, qbl, hv, hsl⟩ := At.get hu h2
  subst qe
  obtain ⟨v0, v1, v2, v3, v4, v5, v6, v7, v8, v9, v10⟩ := hv
  have l1 : w.heap.size < W.heap.size := (Array.getElem?_eq_some_iff.1 X0).1
  have l2 : w.heap.size + 1 < W.heap.size := (Array.getElem?_eq_some_iff.1 X1).1
  have hne := bw_some W
  have m0 := bw_cell (a := ⟨w.heap.size, 3, none⟩) l1 (cellB (p := 3) X0)
  have m1 := bw_cell (a := ⟨w.heap.size + 1, 2, none⟩) l2 (cellB (p := 2) X1)
  have m2 := bw_cell gbl x0
  have m4 := bw_cell gbl x4
  have m3 := bw_cell rbl hu0
  have n0 := bw_cell qbl v0
  have n1 := bw_cell qbl v1
  have n2 := bw_cell qbl v2
  have n3 := bw_cell qbl v3
  have n4 := bw_cell qbl v4
  have n5 := bw_cell qbl v5
  have n6 := bw_cell qbl v6
  have n7 := bw_cell qbl v7
  have n8 := bw_cell qbl v8
  have n9 := bw_cell qbl v9
  have n10 := bw_cell qbl v10
  have HK := Hid.intro K3
  have HX3 := Hid.intro X3
  unfold maxLen at rc2 qc2 gc2
  generalize (t.rows.getD rn dR).cells.getD jn dC = y at *
  generalize (t.rows.getD rn dR).cells.length = rl at h2 m3 qc1
  clear hu hu0 hr hG K3 X0 X1 X3 v0 v1 v2 v3 v4 v5 v6 v7 v8 v9 v10 hsl x0 x1 x2 x3 x4 e1 e2 hcel
  go_enter Try.func71, Try.ntmps71
  go_upto_region 1 with fail
  clear hW0
  refine wp_region_last 19 hmx (by rfl) (by rfl) (by kernel_rfl) (by kernel_rfl) ?_
  simp only [List.take_succ_cons, List.take_zero]
  repeat (go_big_quiet_step (fail))
  refine wpQuiet_nil ?_
  intro W5 hw'
  obtain ⟨⟨Wx, hW5⟩, hw''⟩ := hw'
  subst hw''
  have l3 : w.heap.size + 1 + 1 < W.heap.size := (Array.getElem?_eq_some_iff.1 HX3.out).1
  have X5 := (hW5.block _ l3).trans HX3.out
  obtain ⟨⟨c0, c1, c2, c3, c4, c5, c6, c7, c8, c9, c10⟩, f0, f1, f2, f3, f4, f5, f6, f7, f8, f9, f10⟩ := cells11 X5
  have HK5 := Hid.intro (k_trans HK.out hW5)
  clear m0 m1 m2 m3 m4 n0 n1 n2 n3 n4 n5 n6 n7 n8 n9 n10 hne hW5 X5
  rw [if_pos (by rfl)]
  go_simp
  go_wp2
  exact bodyPost_ret (v := .agg #[.string y.s, .int .i64 y.c, .int .i64 y.r, .int .i64 y.a1, .int .i64 y.b1, .int .i64 y.a2, .int .i64 y.b2, .int .i64 y.a3, .int .i64 y.b3, .int .i64 y.a4, .int .i64 y.b4]) (by simp [results, Try.results71, go_sem, c0, c1, c2, c3, c4, c5, c6, c7, c8, c9, c10]) rfl ⟨by rw [HTx.out], HK5.out.trans ((st11_bk W5 (w.heap.size + 1 + 1) (.string y.s) (.int .i64 y.c) (.int .i64 y.r) (.int .i64 y.a1) (.int .i64 y.b1) (.int .i64 y.a2) (.int .i64 y.b2) (.int .i64 y.a3) (.int .i64 y.b3) (.int .i64 y.a4) (.int .i64 y.b4)).below HK5.out.size (by omega))⟩
end Go.Proofs.Ytfkkhfiiokhnaag
namespace Go.Proofs.Ytfkkhfiiokhnaag
open Go.RowKit

def frVs (x : Fr) : List Value := [.int .i64 x.s, .int .i64 x.w, .int .i64 x.c]
theorem infoFr : (Try.prog.info? 42).map (fun i => (i.zero, i.size, i.bytes)) = some (some (Value.agg #[.int .i64 0, .int .i64 0, .int .i64 0]), 3, 24) := by kernel_rfl
theorem frs_of {w : World} {base : Nat} {v : Value} {l : List Fr} (h : w.ownsRow base 42 3 v l.length (l.flatMap frVs)) : FrsAt w base v l := by
  rcases h.2 with ⟨rfl, hn⟩ | ⟨g, cap, cur, rfl, hg, hc, h3, h4, _⟩
  · exact ⟨none, 0, by rw [hn], by omega, by unfold maxLen; omega, fun i hi => by omega⟩
  · refine ⟨_, cap, rfl, h3, h4, fun i hi => ⟨g, 0, rfl, (Array.getElem?_eq_some_iff.1 hc).1, hg, ?_⟩⟩
    have hx : ∀ j, j < 3 → w.cell? ⟨g, i * 3 + j, none⟩ = (frVs l[i])[j]? := fun j hj => by
      have e := flat_get frVs 3 (fun _ => rfl) l i hi j hj
      rw [row_cell h (u := (frVs l[i])[j]'(by show j < 3; exact hj)) (by rw [e]; simp)]
      simp
    have e : l.getD i dF = l[i] := by simp [List.getD, hi]
    dsimp only
    rw [e, Nat.zero_add]
    exact ⟨hx 0 (by omega), hx 1 (by omega), hx 2 (by omega)⟩
end Go.Proofs.Ytfkkhfiiokhnaag
namespace Go.Proofs.Ytfkkhfiiokhnaag
open Go.RowKit

theorem fieldA_l8Across (x0 x1 x2 x3 x4 x5 x6 x7 x8 x9 x10 : Value) (W : World) : (Instr.field 89 (.agg #[x0, x1, x2, x3, x4, x5, x6, x7, x8, x9, x10]) 5).run Try.prog W = .ok (.agg #[x7, x8]) W := by kernel_rfl
theorem fieldB_l8Across (x0 x1 x2 x3 x4 x5 x6 x7 x8 x9 x10 : Value) (W : World) : (Instr.field 89 (.agg #[x0, x1, x2, x3, x4, x5, x6, x7, x8, x9, x10]) 3).run Try.prog W = .ok (.agg #[x3, x4]) W := by kernel_rfl
set_option maxRecDepth 100000 in
set_option maxHeartbeats 2000000 in
theorem specl8Across (ac ar ag : Option Addr) (cc cr cg : Nat) (t : T) (hD : Drawn t) (r c : Int) (hr : -1000 ≤ r ∧ r ≤ 1000) (hc : -1000 ≤ c ∧ c ≤ 1000) (w : World) {z zg : Nat} (hW : RowsAt w z (.slice ar t.rows.length cr) t.rows) (hG : GsAt w zg (.slice ag (gOf t).cells.length cg) (gOf t).cells) :
    Calls Try.prog 53 #[.agg #[.slice ac t.cols.length cc, .int .i64 t.head, .int .i64 t.foot, .slice ar t.rows.length cr, .int .i64 t.gap], .agg #[.int .i64 (gOf t).rows, .int .i64 (gOf t).cols, .slice ag (gOf t).cells.length cg], .int .i64 r, .int .i64 c] w fun e w' => e = .returned (.agg #[.int .i64 (acrossF t r c).s, .int .i64 (acrossF t r c).w, .int .i64 (acrossF t r c).c]) ∧ Below w.heap.size w w' := by
  obtain ⟨i0, hi0, hz0, hz1, hz2⟩ := info_parts infoFr
  have hfa := fieldA_l8Across
  have hfb := fieldB_l8Across
  obtain ⟨W0, hW0⟩ : ∃ W, ((w.alloc (.cells #[.slice ac t.cols.length cc, .int .i64 t.head, .int .i64 t.foot, .slice ar t.rows.length cr, .int .i64 t.gap] 49)).alloc (.cells #[.int .i64 (gOf t).rows, .int .i64 (gOf t).cols, .slice ag (gOf t).cells.length cg] 56)).alloc (.cells #[.int .i64 0, .int .i64 0, .int .i64 0] 42) = W := ⟨_, rfl⟩
  have K3 : Below w.heap.size w W0 := by rw [← hW0]; exact k_alloc (k_alloc (k_alloc (Below.refl _ _) _) _) _
  have X0 : W0.heap[w.heap.size]? = some (.cells #[.slice ac t.cols.length cc, .int .i64 t.head, .int .i64 t.foot, .slice ar t.rows.length cr, .int .i64 t.gap] 49) := by rw [← hW0]; exact more (more (newest _ _) _) _
  have X1 : W0.heap[w.heap.size + 1]? = some (.cells #[.int .i64 (gOf t).rows, .int .i64 (gOf t).cols, .slice ag (gOf t).cells.length cg] 56) := by rw [← hW0]; exact more (newest1 _ _ _) _
  have X2 : W0.heap[w.heap.size + 1 + 1]? = some (.cells #[.int .i64 0, .int .i64 0, .int .i64 0] 42) := by
    have h := newest ((w.alloc (.cells #[.slice ac t.cols.length cc, .int .i64 t.head, .int .i64 t.foot, .slice ar t.rows.length cr, .int .i64 t.gap] 49)).alloc (.cells #[.int .i64 (gOf t).rows, .int .i64 (gOf t).cols, .slice ag (gOf t).cells.length cg] 56)) (.cells #[.int .i64 0, .int .i64 0, .int .i64 0] 42)
    rw [show ((w.alloc (.cells #[.slice ac t.cols.length cc, .int .i64 t.head, .int .i64 t.foot, .slice ar t.rows.length cr, .int .i64 t.gap] 49)).alloc (.cells #[.int .i64 (gOf t).rows, .int .i64 (gOf t).cols, .slice ag (gOf t).cells.length cg] 56)).heap.size = w.heap.size + 1 + 1 by simp, hW0] at h
    exact h
  have HX := Hid.intro (And.intro X0 (And.intro X1 X2))
  have HK0 := Hid.intro K3
  have hl0 : w.heap.size < W0.heap.size := (Array.getElem?_eq_some_iff.1 X0).1
  have hl1 : w.heap.size + 1 < W0.heap.size := (Array.getElem?_eq_some_iff.1 X1).1
  have hl2 : w.heap.size + 1 + 1 < W0.heap.size := (Array.getElem?_eq_some_iff.1 X2).1
  have HM := Hid.intro (And.intro (hW.kept K3) (hG.kept K3))
  have KA := Hid.intro (fun W (h : Below W0.heap.size W0 W) => specGrdAt (gOf t).rows (gOf t).cols ag cg (gOf t).cells (r - 1) c (by unfold I64; omega) (by unfold I64; omega) W (HM.out.2.kept h))
  have KB := Hid.intro (fun W (h : Below W0.heap.size W0 W) => specGrdAt (gOf t).rows (gOf t).cols ag cg (gOf t).cells r c (by unfold I64; omega) (by unfold I64; omega) W (HM.out.2.kept h))
  have KC := Hid.intro (fun k (hk : k < (gOf t).cells.length) W (h : Below W0.heap.size W0 W) => specl8Cell ac ar ag cc cr cg t hD k hk W (HM.out.1.kept h) (HM.out.2.kept h))
  have HF : Hid (acrossF t r c = meetF ⟨(cellN t (atN t (r - 1) c)).a3, (cellN t (atN t (r - 1) c)).b3, atN t (r - 1) c⟩ ⟨(cellN t (atN t r c)).a1, (cellN t (atN t r c)).b1, atN t r c⟩) := rfl
  have ha := at_is t (r - 1) c
  have hb0 := at_is t r c
  rw [show findTo (holdsB (r - 1) c) (gOf t).cells = atN t (r - 1) c from rfl] at KA
  rw [show findTo (holdsB r c) (gOf t).cells = atN t r c from rfl] at KB
  generalize atN t (r - 1) c = a at KA HF ha
  generalize atN t r c = b at KB HF hb0
  obtain ⟨⟨q0, q1, q2⟩, _⟩ := cells3 X1
  clear hW hG K3 X0 X1 X2 hD
  go_enter Try.func53, Try.ntmps53
  go_upto_region 1 with fail
  clear hW0
  go_wp2_with fail
  refine (KA.out _ (Below.refl _ _)).mono ?_
  rintro e w1 ⟨rfl, hb1⟩
  have HB1 := Hid.intro hb1
  clear hb1 q0 q1 q2 KA
  obtain ⟨⟨q0, q1, q2⟩, _⟩ := cells3 ((HB1.out.block _ hl1).trans HX.out.2.1)
  go_wp2_with fail
  refine (KB.out _ HB1.out).mono ?_
  rintro e w2 ⟨rfl, hb2⟩
  have HB := Hid.intro (k_alloc (k_trans HB1.out hb2) (.cells #[] 42))
  have HO : Hid ((w2.alloc (.cells #[] 42)).ownsRow W0.heap.size 42 3 (.slice (some ⟨w2.heap.size, 0, none⟩) 0 0) ([] : List Fr).length (([] : List Fr).flatMap frVs)) := World.ownsRow_made (base := W0.heap.size) (e := 42) (size := 3) w2 #[] 0 (k_trans HB1.out hb2).size (Nat.zero_le _) rfl
  clear hb2 q0 q1 q2 KB HB1
  go_upto_region 4 with fail
  generalize w2.alloc (.cells #[] 42) = W3 at HB HO ⊢
  generalize w2.heap.size = lb at HO ⊢
  rcases ha with rfl | ⟨k1, rfl, hk1⟩
  · rcases hb0 with rfl | ⟨k2, rfl, hk2⟩
    · skip
      have HFr := Hid.intro (frs_of HO.out)
      go_wp2_with fail
      refine (specBrdBest _ [] (by simp) _ HFr.out).mono ?_
      rintro e w9 ⟨rfl, hb⟩
      have HE : Hid (bestF [] = acrossF t r c) := by rw [Hid, HF.out]; rw [best_none, meetF, if_pos rfl]
      rw [HE.out]
      replace HB := Hid.intro (k_trans HB.out hb)
      have X9 := (HB.out.block _ hl2).trans HX.out.2.2
      obtain ⟨⟨d0, d1, d2⟩, f0, f1, f2⟩ := cells3 X9
      have HBl := Hid.intro ((k_trans HK0.out HB.out).trans ((st3_bk w9 (w.heap.size + 1 + 1) (.int .i64 (acrossF t r c).s) (.int .i64 (acrossF t r c).w) (.int .i64 (acrossF t r c).c)).below (k_trans HK0.out HB.out).size (by omega)))
      clear hb X9 HO HFr
      go_wp2
      exact bodyPost_ret (v := .agg #[.int .i64 (acrossF t r c).s, .int .i64 (acrossF t r c).w, .int .i64 (acrossF t r c).c]) (by simp [results, Try.results53, go_sem, d0, d1, d2]) rfl ⟨rfl, HBl.out⟩
    · have hne : ((-1 : Int) != (k2 : Int)) = true := bne_iff_ne.2 (by omega)
      have Hk2 : Hid (True) := trivial
      generalize hyy : cellN t (k2 : Int) = y at HF
      have HY := Hid.intro hyy
      clear hyy
      obtain ⟨⟨b0, b1, b2, b3, b4⟩, _⟩ := fiveZ ((HB.out.block _ hl0).trans HX.out.1)
      obtain ⟨⟨g0, g1, g2⟩, _⟩ := cells3 ((HB.out.block _ hl1).trans HX.out.2.1)
      go_wp2_with fail
      refine (KC.out k2 hk2 _ HB.out).mono ?_
      rintro e wc2 ⟨rfl, hb⟩
      rw [HY.out]
      replace HB := Hid.intro (k_trans HB.out hb)
      replace HO := Hid.intro (row_below HO.out hb)
      have hO4 := HO.out
      have hszB : W0.heap.size ≤ wc2.heap.size := HB.out.size
      clear hb b0 b1 b2 b3 b4 g0 g1 g2
      go_wp2_with (at_builtin; refine wpList_append_own _ rfl _ _ 39 rfl W0.heap.size 42 i0 _ 3 24 Try.underlying39 hi0 hz0 hz1 hz2 rfl (by decide) _ _ _ rfl (hO4.alloc _) ⟨wc2.heap.size, 0, none⟩ 1 1 (frVs ⟨y.a1, y.b1, (k2 : Int)⟩) rfl rfl (news_at (newestB _ _)) (by simp [frVs, Value.oneCell']) (by unfold maxLen; simp) (by simp) (by simp; omega) ?_)
      intro v2 wd2 hown' hgrow' _
      replace HB := Hid.intro ((k_alloc HB.out _).grown hgrow' (by simp; omega) (fun q hq => (hO4.lt q hq).1))
      replace HO : Hid (wd2.ownsRow W0.heap.size 42 3 v2 ([] ++ [⟨y.a1, y.b1, (k2 : Int)⟩] : List Fr).length (([] ++ [⟨y.a1, y.b1, (k2 : Int)⟩] : List Fr).flatMap frVs)) := Hid.intro (by simpa [List.flatMap_append] using hown')
      obtain ⟨aa2, ca2, rfl, _⟩ := row_form hown'
      clear hown' hgrow' hO4 hszB
      have HFr := Hid.intro (frs_of HO.out)
      go_wp2_with fail
      refine (specBrdBest _ ([] ++ [⟨y.a1, y.b1, (k2 : Int)⟩]) (by simp) _ HFr.out).mono ?_
      rintro e w9 ⟨rfl, hb⟩
      have HE : Hid (bestF ([] ++ [⟨y.a1, y.b1, (k2 : Int)⟩]) = acrossF t r c) := by rw [Hid, HF.out]; rw [show ([] ++ [(⟨y.a1, y.b1, (k2 : Int)⟩ : Fr)]) = [⟨y.a1, y.b1, (k2 : Int)⟩] from rfl, best_one, meetF, if_neg (show ¬ (-1 : Int) = (k2 : Int) by omega), if_pos (show (-1 : Int) < 0 by omega)]
      rw [HE.out]
      replace HB := Hid.intro (k_trans HB.out hb)
      have X9 := (HB.out.block _ hl2).trans HX.out.2.2
      obtain ⟨⟨d0, d1, d2⟩, f0, f1, f2⟩ := cells3 X9
      have HBl := Hid.intro ((k_trans HK0.out HB.out).trans ((st3_bk w9 (w.heap.size + 1 + 1) (.int .i64 (acrossF t r c).s) (.int .i64 (acrossF t r c).w) (.int .i64 (acrossF t r c).c)).below (k_trans HK0.out HB.out).size (by omega)))
      clear hb X9 HO HFr
      go_wp2
      exact bodyPost_ret (v := .agg #[.int .i64 (acrossF t r c).s, .int .i64 (acrossF t r c).w, .int .i64 (acrossF t r c).c]) (by simp [results, Try.results53, go_sem, d0, d1, d2]) rfl ⟨rfl, HBl.out⟩
  · generalize hxx : cellN t (k1 : Int) = x at HF
    have HXc := Hid.intro hxx
    clear hxx
    rcases hb0 with rfl | ⟨k2, rfl, hk2⟩
    · have hne : ((k1 : Int) != (-1 : Int)) = true := bne_iff_ne.2 (by omega)
      obtain ⟨⟨b0, b1, b2, b3, b4⟩, _⟩ := fiveZ ((HB.out.block _ hl0).trans HX.out.1)
      obtain ⟨⟨g0, g1, g2⟩, _⟩ := cells3 ((HB.out.block _ hl1).trans HX.out.2.1)
      go_wp2_with fail
      refine (KC.out k1 hk1 _ HB.out).mono ?_
      rintro e wc1 ⟨rfl, hb⟩
      rw [HXc.out]
      replace HB := Hid.intro (k_trans HB.out hb)
      replace HO := Hid.intro (row_below HO.out hb)
      have hO4 := HO.out
      have hszB : W0.heap.size ≤ wc1.heap.size := HB.out.size
      clear hb b0 b1 b2 b3 b4 g0 g1 g2
      go_wp2_with (at_builtin; refine wpList_append_own _ rfl _ _ 39 rfl W0.heap.size 42 i0 _ 3 24 Try.underlying39 hi0 hz0 hz1 hz2 rfl (by decide) _ _ _ rfl (hO4.alloc _) ⟨wc1.heap.size, 0, none⟩ 1 1 (frVs ⟨x.a3, x.b3, (k1 : Int)⟩) rfl rfl (news_at (newestB _ _)) (by simp [frVs, Value.oneCell']) (by unfold maxLen; simp) (by simp) (by simp; omega) ?_)
      intro v1 wd1 hown' hgrow' _
      replace HB := Hid.intro ((k_alloc HB.out _).grown hgrow' (by simp; omega) (fun q hq => (hO4.lt q hq).1))
      replace HO : Hid (wd1.ownsRow W0.heap.size 42 3 v1 ([] ++ [⟨x.a3, x.b3, (k1 : Int)⟩] : List Fr).length (([] ++ [⟨x.a3, x.b3, (k1 : Int)⟩] : List Fr).flatMap frVs)) := Hid.intro (by simpa [List.flatMap_append] using hown')
      obtain ⟨aa1, ca1, rfl, _⟩ := row_form hown'
      clear hown' hgrow' hO4 hszB
      have HFr := Hid.intro (frs_of HO.out)
      go_wp2_with fail
      refine (specBrdBest _ ([] ++ [⟨x.a3, x.b3, (k1 : Int)⟩]) (by simp) _ HFr.out).mono ?_
      rintro e w9 ⟨rfl, hb⟩
      have HE : Hid (bestF ([] ++ [⟨x.a3, x.b3, (k1 : Int)⟩]) = acrossF t r c) := by rw [Hid, HF.out]; rw [show ([] ++ [(⟨x.a3, x.b3, (k1 : Int)⟩ : Fr)]) = [⟨x.a3, x.b3, (k1 : Int)⟩] from rfl, best_one, meetF, if_neg (show ¬ (k1 : Int) = -1 by omega), if_neg (show ¬ (k1 : Int) < 0 by omega), if_pos (show (-1 : Int) < 0 by omega)]
      rw [HE.out]
      replace HB := Hid.intro (k_trans HB.out hb)
      have X9 := (HB.out.block _ hl2).trans HX.out.2.2
      obtain ⟨⟨d0, d1, d2⟩, f0, f1, f2⟩ := cells3 X9
      have HBl := Hid.intro ((k_trans HK0.out HB.out).trans ((st3_bk w9 (w.heap.size + 1 + 1) (.int .i64 (acrossF t r c).s) (.int .i64 (acrossF t r c).w) (.int .i64 (acrossF t r c).c)).below (k_trans HK0.out HB.out).size (by omega)))
      clear hb X9 HO HFr
      go_wp2
      exact bodyPost_ret (v := .agg #[.int .i64 (acrossF t r c).s, .int .i64 (acrossF t r c).w, .int .i64 (acrossF t r c).c]) (by simp [results, Try.results53, go_sem, d0, d1, d2]) rfl ⟨rfl, HBl.out⟩
    · by_cases hkk : k1 = k2
      · subst hkk
        have hne : ((k1 : Int) != (k1 : Int)) = false := by simp
        have HFr := Hid.intro (frs_of HO.out)
        go_wp2_with fail
        refine (specBrdBest _ [] (by simp) _ HFr.out).mono ?_
        rintro e w9 ⟨rfl, hb⟩
        have HE : Hid (bestF [] = acrossF t r c) := by rw [Hid, HF.out]; rw [best_none, meetF, if_pos rfl]
        rw [HE.out]
        replace HB := Hid.intro (k_trans HB.out hb)
        have X9 := (HB.out.block _ hl2).trans HX.out.2.2
        obtain ⟨⟨d0, d1, d2⟩, f0, f1, f2⟩ := cells3 X9
        have HBl := Hid.intro ((k_trans HK0.out HB.out).trans ((st3_bk w9 (w.heap.size + 1 + 1) (.int .i64 (acrossF t r c).s) (.int .i64 (acrossF t r c).w) (.int .i64 (acrossF t r c).c)).below (k_trans HK0.out HB.out).size (by omega)))
        clear hb X9 HO HFr
        go_wp2
        exact bodyPost_ret (v := .agg #[.int .i64 (acrossF t r c).s, .int .i64 (acrossF t r c).w, .int .i64 (acrossF t r c).c]) (by simp [results, Try.results53, go_sem, d0, d1, d2]) rfl ⟨rfl, HBl.out⟩
      · have hne : ((k1 : Int) != (k2 : Int)) = true := bne_iff_ne.2 (by omega)
        generalize hyy : cellN t (k2 : Int) = y at HF
        have HY := Hid.intro hyy
        clear hyy
        have Hkk := Hid.intro hkk
        clear hkk
        obtain ⟨⟨b0, b1, b2, b3, b4⟩, _⟩ := fiveZ ((HB.out.block _ hl0).trans HX.out.1)
        obtain ⟨⟨g0, g1, g2⟩, _⟩ := cells3 ((HB.out.block _ hl1).trans HX.out.2.1)
        go_wp2_with fail
        refine (KC.out k1 hk1 _ HB.out).mono ?_
        rintro e wc1 ⟨rfl, hb⟩
        rw [HXc.out]
        replace HB := Hid.intro (k_trans HB.out hb)
        replace HO := Hid.intro (row_below HO.out hb)
        have hO4 := HO.out
        have hszB : W0.heap.size ≤ wc1.heap.size := HB.out.size
        clear hb b0 b1 b2 b3 b4 g0 g1 g2
        go_wp2_with (at_builtin; refine wpList_append_own _ rfl _ _ 39 rfl W0.heap.size 42 i0 _ 3 24 Try.underlying39 hi0 hz0 hz1 hz2 rfl (by decide) _ _ _ rfl (hO4.alloc _) ⟨wc1.heap.size, 0, none⟩ 1 1 (frVs ⟨x.a3, x.b3, (k1 : Int)⟩) rfl rfl (news_at (newestB _ _)) (by simp [frVs, Value.oneCell']) (by unfold maxLen; simp) (by simp) (by simp; omega) ?_)
        intro v1 wd1 hown' hgrow' _
        replace HB := Hid.intro ((k_alloc HB.out _).grown hgrow' (by simp; omega) (fun q hq => (hO4.lt q hq).1))
        replace HO : Hid (wd1.ownsRow W0.heap.size 42 3 v1 ([] ++ [⟨x.a3, x.b3, (k1 : Int)⟩] : List Fr).length (([] ++ [⟨x.a3, x.b3, (k1 : Int)⟩] : List Fr).flatMap frVs)) := Hid.intro (by simpa [List.flatMap_append] using hown')
        obtain ⟨aa1, ca1, rfl, _⟩ := row_form hown'
        clear hown' hgrow' hO4 hszB
        obtain ⟨⟨b0, b1, b2, b3, b4⟩, _⟩ := fiveZ ((HB.out.block _ hl0).trans HX.out.1)
        obtain ⟨⟨g0, g1, g2⟩, _⟩ := cells3 ((HB.out.block _ hl1).trans HX.out.2.1)
        go_wp2_with fail
        refine (KC.out k2 hk2 _ HB.out).mono ?_
        rintro e wc2 ⟨rfl, hb⟩
        rw [HY.out]
        replace HB := Hid.intro (k_trans HB.out hb)
        replace HO := Hid.intro (row_below HO.out hb)
        have hO4 := HO.out
        have hszB : W0.heap.size ≤ wc2.heap.size := HB.out.size
        clear hb b0 b1 b2 b3 b4 g0 g1 g2
        go_wp2_with (at_builtin; refine wpList_append_own _ rfl _ _ 39 rfl W0.heap.size 42 i0 _ 3 24 Try.underlying39 hi0 hz0 hz1 hz2 rfl (by decide) _ _ _ rfl (hO4.alloc _) ⟨wc2.heap.size, 0, none⟩ 1 1 (frVs ⟨y.a1, y.b1, (k2 : Int)⟩) rfl rfl (news_at (newestB _ _)) (by simp [frVs, Value.oneCell']) (by unfold maxLen; simp) (by simp) (by simp; omega) ?_)
        intro v2 wd2 hown' hgrow' _
        replace HB := Hid.intro ((k_alloc HB.out _).grown hgrow' (by simp; omega) (fun q hq => (hO4.lt q hq).1))
        replace HO : Hid (wd2.ownsRow W0.heap.size 42 3 v2 (([] ++ [⟨x.a3, x.b3, (k1 : Int)⟩]) ++ [⟨y.a1, y.b1, (k2 : Int)⟩] : List Fr).length ((([] ++ [⟨x.a3, x.b3, (k1 : Int)⟩]) ++ [⟨y.a1, y.b1, (k2 : Int)⟩] : List Fr).flatMap frVs)) := Hid.intro (by simpa [List.flatMap_append] using hown')
        obtain ⟨aa2, ca2, rfl, _⟩ := row_form hown'
        clear hown' hgrow' hO4 hszB
        have HFr := Hid.intro (frs_of HO.out)
        go_wp2_with fail
        refine (specBrdBest _ (([] ++ [⟨x.a3, x.b3, (k1 : Int)⟩]) ++ [⟨y.a1, y.b1, (k2 : Int)⟩]) (by simp) _ HFr.out).mono ?_
        rintro e w9 ⟨rfl, hb⟩
        have HE : Hid (bestF (([] ++ [⟨x.a3, x.b3, (k1 : Int)⟩]) ++ [⟨y.a1, y.b1, (k2 : Int)⟩]) = acrossF t r c) := by rw [Hid, HF.out]; rw [show (([] ++ [(⟨x.a3, x.b3, (k1 : Int)⟩ : Fr)]) ++ [(⟨y.a1, y.b1, (k2 : Int)⟩ : Fr)]) = [⟨x.a3, x.b3, (k1 : Int)⟩, ⟨y.a1, y.b1, (k2 : Int)⟩] from rfl, best_two, meetF, if_neg (show ¬ (k1 : Int) = (k2 : Int) by have := Hkk.out; omega), if_neg (show ¬ (k1 : Int) < 0 by omega), if_neg (show ¬ (k2 : Int) < 0 by omega)]
        rw [HE.out]
        replace HB := Hid.intro (k_trans HB.out hb)
        have X9 := (HB.out.block _ hl2).trans HX.out.2.2
        obtain ⟨⟨d0, d1, d2⟩, f0, f1, f2⟩ := cells3 X9
        have HBl := Hid.intro ((k_trans HK0.out HB.out).trans ((st3_bk w9 (w.heap.size + 1 + 1) (.int .i64 (acrossF t r c).s) (.int .i64 (acrossF t r c).w) (.int .i64 (acrossF t r c).c)).below (k_trans HK0.out HB.out).size (by omega)))
        clear hb X9 HO HFr
        go_wp2
        exact bodyPost_ret (v := .agg #[.int .i64 (acrossF t r c).s, .int .i64 (acrossF t r c).w, .int .i64 (acrossF t r c).c]) (by simp [results, Try.results53, go_sem, d0, d1, d2]) rfl ⟨rfl, HBl.out⟩
end Go.Proofs.Ytfkkhfiiokhnaag
