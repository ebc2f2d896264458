/-
  PROVED HERE: the model's l5Zero, l5Least and ColLeast at a drawn table: the list leastL, in memory of its own; nothing that was in memory is turned. Also: the model's grid of a drawn table that is ok; a cell's columns together. Also: the program's ColAllFixed at a drawn table; nothing that was in memory is turned. Also: the model's ColAllFixed at a drawn table; nothing that was in memory is turned.
-/
import Derived.Test.YtfkkhfiiokhnaaeB37
import Derived.Test.YtfkkhfiiokhnaaeB39
import Derived.Test.YtfkkhfiiokhnaaeB34
import Derived.Test.YtfkkhfiiokhnaaeB25
import Derived.Test.YtfkkhfiiokhnaaeB19
import Derived.Test.YtfkkhfiiokhnaaeB14
import Derived.Test.YtfkkhfiiokhnaaeB22
import Derived.Test.YtfkkhfiiokhnaaeB21
import Derived.Test.YtfkkhfiiokhnaaeB36
namespace Go.Proofs.Ytfkkhfiiokhnaae
open Go.RowKit Go.BigFrame

set_option maxRecDepth 100000 in
theorem specl5Zero (r : Int) (vg : Value) (C : Nat) (hC : C ≤ 88) (w : World) :
    Calls Try.prog 49 #[.agg #[.int .i64 r, .int .i64 (C : Int), vg]] w fun e w' => ∃ v, e = .returned v ∧ RowI w' w.heap.size w'.heap.size v (zeroL C) ∧ Below w.heap.size w w' := by
  have hmk := makeI C (by omega)
  have X0 := newestB w (.cells #[.int .i64 r, .int .i64 (C : Int), vg] 35)
  have x1 : (w.alloc (.cells #[.int .i64 r, .int .i64 (C : Int), vg] 35)).cell? ⟨w.heap.size, 1, none⟩ = some (.int .i64 (C : Int)) := cellB X0
  clear X0
  go_enter Try.func49, Try.ntmps49
  go_wp2
  go_ret
  have R := row_new (w.alloc (.cells #[.int .i64 r, .int .i64 (C : Int), vg] 35)) C (by omega)
  refine ⟨_, rfl, ?_, k_alloc (k_alloc (Below.refl _ _) _) _⟩
  have R2 := R.base (B' := w.heap.size) (D' := w.heap.size + 1 + 1) (by simp) (by simp)
  simpa [zeroL] using R2

/-- the table and the grid in their boxes -/
def Ls (w : World) (z zg : Nat) (ac ar : Option Addr) (cc cr : Nat) (t : T) (ag : Option Addr) (cg : Nat) (W : World) : Prop :=
  Below w.heap.size w W ∧ (ColsAt W z (.slice ac t.cols.length cc) t.cols ∧ RowsAt W z (.slice ar t.rows.length cr) t.rows) ∧ GsAt W zg (.slice ag (gOf t).cells.length cg) (gOf t).cells ∧ W.heap[w.heap.size]? = some (.cells #[.slice ac t.cols.length cc, .int .i64 t.head, .int .i64 t.foot, .slice ar t.rows.length cr, .int .i64 t.gap] 26) ∧ W.heap[w.heap.size + 1]? = some (.cells #[.int .i64 (gOf t).rows, .int .i64 (gOf t).cols, .slice ag (gOf t).cells.length cg] 35)
theorem Ls.kept {w W W' : World} {z zg : Nat} {ac ar ag : Option Addr} {cc cr cg : Nat} {t : T} (h : Ls w z zg ac ar cc cr t ag cg W) (hb : Below W.heap.size W W') : Ls w z zg ac ar cc cr t ag cg W' :=
  ⟨h.1.trans (hb.mono h.1.size), ⟨h.2.1.1.kept hb, h.2.1.2.kept hb⟩, h.2.2.1.kept hb, (hb.block _ (Array.getElem?_eq_some_iff.1 h.2.2.2.1).1).trans h.2.2.2.1, (hb.block _ (Array.getElem?_eq_some_iff.1 h.2.2.2.2).1).trans h.2.2.2.2⟩
theorem threeO {w : World} {g : Nat} {x0 x1 x2 : Value} {t : TypeId} (h : w.heap[g]? = some (.cells #[x0, x1, x2] t)) :
    w.cell? ⟨g, 0, none⟩ = some x0 ∧ w.cell? ⟨g, 1, none⟩ = some x1 ∧ w.cell? ⟨g, 2, none⟩ = some x2 := ⟨cellB h, cellB h, cellB h⟩
set_option maxRecDepth 100000 in
set_option maxHeartbeats 1000000 in
theorem specl5Least (ac ar : Option Addr) (cc cr : Nat) (t : T) (hD : Drawn t) (ag : Option Addr) (cg : Nat) (w : World) {z zg : Nat} (hc : ColsAt w z (.slice ac t.cols.length cc) t.cols) (hr : RowsAt w z (.slice ar t.rows.length cr) t.rows) (hg : GsAt w zg (.slice ag (gOf t).cells.length cg) (gOf t).cells) (hok : tblB t = true) :
    Calls Try.prog 50 #[.agg #[.slice ac t.cols.length cc, .int .i64 t.head, .int .i64 t.foot, .slice ar t.rows.length cr, .int .i64 t.gap], .agg #[.int .i64 (gOf t).rows, .int .i64 (gOf t).cols, .slice ag (gOf t).cells.length cg]] w fun e w' => ∃ v, e = .returned v ∧ RowI w' w.heap.size w'.heap.size v (leastL t) ∧ Below w.heap.size w w' := by
  obtain ⟨_, C, hgc, hC, _⟩ := cel_of hD
  have hC1 : 1 ≤ C := by
    have h1 : (gOf t).cols = colsOf (max 1 (t.cols.length : Int)) (gridOf t) := by rw [gOf_ok hok]
    have h2 := colsOf_ge (gridOf t) (max 1 (t.cols.length : Int))
    omega
  have HCN := Hid.intro (colN_of hgc)
  have HL : Hid (fixTo t.cols (needL t (leastP t)) C = leastL t) := by rw [Hid, leastL, HCN.out]
  have hNL : needTo (fun x => ((leastOf (wordsW (textOf t x)) : Nat) : Int)) t.gap (gOf t).cells (zeroL C) 4 = needL t (leastP t) := by unfold needL; rw [HCN.out]; rfl
  have hlen := needL_len t (leastP t)
  rw [HCN.out] at hlen
  have HUp := Hid.intro (needL_up hD (fun x => (leastP_le t x).2))
  have HSd := Hid.intro (fun k (hk : k < C) => sd_small (t := t) (k := k) (by rw [HCN.out]; exact hk))
  have hzl : (zeroL C).length = C := by simp [zeroL]
  have hfl0 := field0
  have hfl1 := field1
  have hmx : Try.prog.follows .mixedOrders = true := by kernel_rfl
  have KN := Hid.intro (fun W h1 h2 a0 c0 h3 => specl5Need_true ac ar cc cr t hD ag cg W (z := z) (zg := zg) h1 h2 C hgc hC1 a0 c0 h3)
  have KZ := Hid.intro (fun W => specl5Zero (gOf t).rows (.slice ag (gOf t).cells.length cg) C hC W)
  rw [← hgc] at KZ
  rw [hNL] at KN
  generalize needL t (leastP t) = L at KN HL hlen HUp
  have HP : Hid (Ls w z zg ac ar cc cr t ag cg ((w.alloc (.cells #[.slice ac t.cols.length cc, .int .i64 t.head, .int .i64 t.foot, .slice ar t.rows.length cr, .int .i64 t.gap] 26)).alloc (.cells #[.int .i64 (gOf t).rows, .int .i64 (gOf t).cols, .slice ag (gOf t).cells.length cg] 35))) := by
    have K := k_alloc (k_alloc (Below.refl w.heap.size w) (.cells #[.slice ac t.cols.length cc, .int .i64 t.head, .int .i64 t.foot, .slice ar t.rows.length cr, .int .i64 t.gap] 26)) (.cells #[.int .i64 (gOf t).rows, .int .i64 (gOf t).cols, .slice ag (gOf t).cells.length cg] 35)
    refine ⟨K, ⟨hc.kept K, hr.kept K⟩, hg.kept K, (Below.heap_alloc _ _ _ (by simp)).trans (newestB _ _), ?_⟩
    have := newestB (w.alloc (.cells #[.slice ac t.cols.length cc, .int .i64 t.head, .int .i64 t.foot, .slice ar t.rows.length cr, .int .i64 t.gap] 26)) (.cells #[.int .i64 (gOf t).rows, .int .i64 (gOf t).cols, .slice ag (gOf t).cells.length cg] 35)
    simpa using this
  clear hNL hc hr hg hD hgc hok
  go_enter Try.func50, Try.ntmps50
  go_upto_region 1 with fail
  generalize (w.alloc (.cells #[.slice ac t.cols.length cc, .int .i64 t.head, .int .i64 t.foot, .slice ar t.rows.length cr, .int .i64 t.gap] 26)).alloc (.cells #[.int .i64 (gOf t).rows, .int .i64 (gOf t).cols, .slice ag (gOf t).cells.length cg] 35) = W0 at HP ⊢
  obtain ⟨b0, b1, b2, b3, b4⟩ := fiveO HP.out.2.2.2.1
  obtain ⟨q0, q1, q2⟩ := threeO HP.out.2.2.2.2
  have ht0 := (Array.getElem?_eq_some_iff.1 HP.out.2.2.2.1).1
  have hg0 := (Array.getElem?_eq_some_iff.1 HP.out.2.2.2.2).1
  go_cut [5] (fun s W => ∃ a c D, s = .slice a C c ∧ Hid (RowI W W0.heap.size D (.slice a C c) L) ∧ Hid (Below W0.heap.size W0 W) ∧ D ≤ W.heap.size)
  case first => as_aux_lemma =>
    have HPd := Hid.intro (HP.out.kept (k_drew (Below.refl _ _)))
    have HBd := Hid.intro (k_drew (Below.refl W0.heap.size W0))
    go_region_with (first
      | (go_at_call 49; refine (KZ.out _).mono ?_; rintro e w1 ⟨v1, rfl, hr1, hb1⟩; obtain ⟨a1, c1, rfl⟩ := hr1.form; rw [hzl] at hr1 ⊢; have R1 := Hid.intro hr1.at; have P1 := Hid.intro (HPd.out.kept hb1); have B1 := Hid.intro (k_trans HBd.out hb1); clear hr1 hb1; obtain ⟨p0, p1, p2, p3, p4⟩ := fiveO P1.out.2.2.2.1; obtain ⟨r0, r1, r2⟩ := threeO P1.out.2.2.2.2; have ht1 := (Array.getElem?_eq_some_iff.1 P1.out.2.2.2.1).1; have hg1 := (Array.getElem?_eq_some_iff.1 P1.out.2.2.2.2).1)
      | (go_at_call 48; refine (KN.out _ P1.out.2.1.2 P1.out.2.2.1 a1 c1 R1.out).mono ?_; rintro e w2 ⟨v2, rfl, hr2, hb2⟩; obtain ⟨a2, c2, rfl⟩ := hr2.form; rw [hlen] at hr2 ⊢; have R2 := Hid.intro (hr2.base (B' := W0.heap.size) B1.out.size (Nat.le_refl _)); have B2 := Hid.intro (k_trans B1.out hb2); clear hr2 hb2))
    all_goals (go_wp2_with fail; go_meet; case rel => exact ⟨_, _, _, rfl, R2, B2, Nat.le_refl _⟩)
  case rest =>
    obtain ⟨a2, c2, D, rfl, HR0, HB0, hD0⟩ := hcut
    clear b0 b1 b2 b3 b4 q0 q1 q2 hg0 KN KZ
    go_wp2_with fail
    go_loopw [6] (fun s W => ∃ k : Nat, s = .int .i64 k ∧ k ≤ C ∧ Hid (RowI W W0.heap.size D (.slice a2 C c2) (fixTo t.cols L k)) ∧ Hid (Below W0.heap.size W0 W) ∧ D ≤ W.heap.size) (fun s _ => C - (intOf s).toNat)
    case atStart => exact ⟨0, rfl, Nat.zero_le _, HR0, HB0, hD0⟩
    case round =>
      clear HR0 HB0 hD0
      obtain ⟨k, rfl, hk, HR, HB, hsz⟩ := hrel
      by_cases hlt : k < C
      case neg =>
        obtain rfl : k = C := by omega
        have HF := Hid.intro (HR.out.base (B' := w.heap.size) (D' := wr.heap.size) HP.out.1.size hsz)
        have HK := Hid.intro (HP.out.kept HB.out).1
        go_wp2
        go_ret
        exact ⟨_, rfl, by rw [← HL.out]; exact HF.out, HK.out⟩
      have HPr := Hid.intro (HP.out.kept HB.out)
      obtain ⟨b0, b1, b2, b3, b4⟩ := fiveO HPr.out.2.2.2.1
      have htr := (Array.getElem?_eq_some_iff.1 HPr.out.2.2.2.1).1
      have KS := Hid.intro (specl5Said ac ar cc cr t (k : Int) (by omega) wr HPr.out.2.1.1)
      obtain ⟨g, cap', e', hBg, hgD, hgw, hc1, hc2, hx, hf⟩ := HR.out.get (i := k) (by rw [fixTo_len]; omega)
      rw [fixTo_len, hlen] at e' hc1
      simp only [Value.slice.injEq, true_and] at e'
      obtain ⟨rfl, rfl⟩ := e'
      unfold maxLen at hc2
      have hxb := HUp.out k (by omega)
      rw [fixTo_out t.cols L k (Nat.le_refl _)] at hx
      have hsd := HSd.out k hlt
      have HYes : Hid ((sd t.cols k).1 = 1 → fixTo t.cols L (k + 1) = (fixTo t.cols L k).set k (max (L.getD k 0) (sd t.cols k).2)) := fun h => by rw [fixTo, if_pos h, fixTo_out t.cols L k (Nat.le_refl _)]
      have HNo : Hid ((sd t.cols k).1 ≠ 1 → fixTo t.cols L (k + 1) = fixTo t.cols L k) := fun h => by rw [fixTo, if_neg h]
      have KS3 := Hid.intro (fun W h => specl5Said ac ar cc cr t (k : Int) (by omega) W (z := z) h)
      generalize sd t.cols k = p at KS KS3 hsd HYes HNo
      by_cases hp : p.1 = 1
      case neg =>
        have hpb : (p.1 == 1) = false := by simpa using hp
        have HF := Hid.intro (HNo.out hp)
        clear HNo HYes hsd hp KS3
        go_wp2_with fail
        refine KS.out.mono ?_
        rintro e w3 ⟨rfl, hb3⟩
        have HK3 := Hid.intro hb3
        clear hb3
        go_wp2
        go_roundw
        case rel => exact ⟨k + 1, by go_num, by omega, by rw [HF.out]; exact HR.out.kept (fun j h0 _ _ => HK3.out.block j h0), k_trans HB.out HK3.out, Nat.le_trans hsz HK3.out.size⟩
        case measure => simp [intOf]; omega
      have HF := Hid.intro (HYes.out hp)
      have hq := hsd hp
      clear HNo HYes hsd
      obtain ⟨p1, p2⟩ := p
      obtain rfl : p1 = 1 := hp
      have hq : 0 ≤ p2 ∧ p2 ≤ 60 := hq
      dsimp only at KS HF KS3
      go_wp2_with fail
      refine KS.out.mono ?_
      rintro e W3 ⟨rfl, hb3⟩
      have HB3 := Hid.intro (k_trans HB.out hb3)
      have HR3 := Hid.intro (HR.out.kept (fun j h0 _ _ => hb3.block j h0))
      have HP3 := Hid.intro (HPr.out.kept hb3)
      have hsz3 : D ≤ W3.heap.size := Nat.le_trans hsz hb3.size
      clear hb3 HR HB hx hf b0 b1 b2 b3 b4 htr KS hsz HPr
      go_upto_region 6 with fail
      obtain ⟨g3, cap3, e3, hBg3, hgD3, hgw3, _, _, hx3, hf3⟩ := HR3.out.get (i := k) (by rw [fixTo_len]; omega)
      rw [fixTo_len, hlen] at e3
      simp only [Value.slice.injEq, Option.some.injEq, Addr.mk.injEq, and_true, true_and] at e3
      have eg3 := e3.1
      clear e3
      subst eg3
      rw [fixTo_out t.cols L k (Nat.le_refl _)] at hx3
      have ht3 := (Array.getElem?_eq_some_iff.1 HP3.out.2.2.2.1).1
      have hne := bw_some W3
      have m0 := bw_cell (a := ⟨w.heap.size, 0, none⟩) ht3 (cellB (p := 0) HP3.out.2.2.2.1)
      have m1 := bw_cell (a := ⟨w.heap.size, 1, none⟩) ht3 (cellB (p := 1) HP3.out.2.2.2.1)
      have m2 := bw_cell (a := ⟨w.heap.size, 2, none⟩) ht3 (cellB (p := 2) HP3.out.2.2.2.1)
      have m3 := bw_cell (a := ⟨w.heap.size, 3, none⟩) ht3 (cellB (p := 3) HP3.out.2.2.2.1)
      have m4 := bw_cell (a := ⟨w.heap.size, 4, none⟩) ht3 (cellB (p := 4) HP3.out.2.2.2.1)
      have m5 := bw_cell (a := ⟨g, k, none⟩) hgw3 hx3
      have HN := Hid.intro (fun W (h : Below W3.heap.size W3 W) => (HR3.out.kept (fun j h0 _ _ => h.block j h0)).set (i := k) (by rw [fixTo_len]; omega) (max (L.getD k 0) p2))
      rw [← HF.out] at HN
      have HLk : Hid (k < (fixTo t.cols L k).length) := by rw [Hid, fixTo_len]; omega
      generalize L.getD k 0 = y at hxb hx3 m5 HN
      have KSq := Hid.intro (fun (p : BW W3) => bw_of (KS3.out p.u (HP3.out.kept p.h).2.1.1))
      have KM := Hid.intro (fun (p : BW W3) => bw_same (l1Max_any y p2 p.u))
      clear hx3 hf3 HF KS3
      refine wp_region_last 12 hmx (by rfl) (by rfl) (by kernel_rfl) (by kernel_rfl) ?_
      simp only [List.take_succ_cons, List.take_zero]
      repeat (go_big_quiet_step (first | (go_at_call 41; refine KSq.out _) | (go_at_call 51; refine KM.out _)))
      refine wpQuiet_nil ?_
      intro W5 hw'
      obtain ⟨⟨Wx, hW5⟩, hw''⟩ := hw'
      subst hw''
      have HN5 := Hid.intro (HN.out _ hW5)
      have HB5 := Hid.intro (k_set (k_trans HB3.out hW5) (p := ⟨g, k, none⟩) hBg (.int .i64 (max y p2)))
      have hf5 := (HR3.out.kept (fun j h0 _ _ => hW5.block j h0)).get (i := k) HLk.out
      obtain ⟨g5, cap5, e5, _, _, hgw5, _, _, hx5, hf5⟩ := hf5
      simp only [Value.slice.injEq, Option.some.injEq, Addr.mk.injEq, and_true] at e5
      have eg := e5.1
      clear e5
      subst eg
      have hsz5 : D ≤ (W5.setCell ⟨g, k, none⟩ (.int .i64 (max y p2))).heap.size := by rw [sizeSet]; have := hW5.size; omega
      clear m0 m1 m2 m3 m4 m5 HN HB3 HR3 hW5 hne KSq KM
      rw [if_pos (by rfl)]
      go_simp
      go_wp2
      go_roundw
      case rel => exact ⟨k + 1, by go_num, by omega, HN5, HB5, hsz5⟩
      case measure => simp [intOf]; omega
end Go.Proofs.Ytfkkhfiiokhnaae
namespace Go.Proofs.Ytfkkhfiiokhnaae
open Go.RowKit

theorem row_lit0 (w : World) (B : Nat) (hB : B ≤ w.heap.size) : RowI (w.alloc (.cells #[] 3)) B (w.alloc (.cells #[] 3)).heap.size (.slice (some ⟨w.heap.size, 0, none⟩) 0 0) [] :=
  .inr ⟨w.heap.size, 0, #[], rfl, hB, by simp, newestB _ _, Nat.le_refl _, Nat.zero_le _, rfl, fun i hi => absurd hi (Nat.not_lt_zero _)⟩
theorem leastL_no {t : T} (h : tblB t = false) : leastL t = [] := List.eq_nil_of_length_eq_zero (by rw [leastL_len, colN, gOf_no h]; rfl)
theorem l3Of_g (ac ar : Option Addr) (cc cr : Nat) (t : T) (hD : Drawn t) (hok : tblB t = true) (w : World) {z : Nat} (hr : RowsAt w z (.slice ar t.rows.length cr) t.rows) :
    Calls Try.prog 28 #[.agg #[.slice ac t.cols.length cc, .int .i64 t.head, .int .i64 t.foot, .slice ar t.rows.length cr, .int .i64 t.gap]] w fun e w' => ∃ ag cg, e = .returned (.agg #[.int .i64 (gOf t).rows, .int .i64 (gOf t).cols, .slice ag (gOf t).cells.length cg]) ∧ GsAt w' w.heap.size (.slice ag (gOf t).cells.length cg) (gOf t).cells ∧ Below w.heap.size w w' := by
  refine (l3Of_any ac ar cc cr t (low_of hok hD) w hr).mono ?_
  rintro e w' ⟨vg, rfl, hO, hb⟩
  have hgk := gOf_gok hD
  rw [gOf_ok hok] at hgk ⊢
  obtain ⟨ag, cg, rfl⟩ := own_slice hO
  exact ⟨ag, cg, rfl, hO.at hgk, hb⟩
/-- a cell's columns together -/
theorem cellV_has {t : T} {C : Nat} {x : GC} (hx : Cel t C x) {l : List Int} (hb : UpB l 50000) (hl : l.length = C) : cellV l t.gap x = hasV l t.gap x := by
  obtain ⟨rn, jn, cn, mn, e1, e2, e3, e4, h1, h2, h3, h4, h5⟩ := hx.ex
  obtain ⟨o1, o2⟩ := own_span (l := l) e3 e4 l.length (Nat.le_refl _)
  have hg := hx.gap
  have hm : min l.length (cn + mn) = cn + mn := by omega
  have hm2 : min l.length cn = cn := by omega
  have hm3 : min mn (l.length - cn) = mn := by omega
  rw [hm, hm2] at o2
  rw [hm3] at o1
  have hss : (subL l cn mn).sum = sumTo l (cn + mn) - sumTo l cn := by
    unfold subL sumTo
    rw [List.take_add, List.sum_append]
    omega
  have hs := sum_upB (fun y (hy : y ∈ subL l cn mn) => hb.mem (subL_mem hy))
  rw [subL_len (by omega)] at hs
  have hgm := gap_facts hg (m := mn - 1) (by omega)
  rw [show ((mn - 1 : Nat) : Int) = (mn : Int) - 1 by omega] at hgm
  unfold cellV hasV
  rw [acrV_cons (by omega), o1, o2, e3, e4, Int.toNat_natCast, Int.toNat_natCast, hss]
  rw [hss] at hs
  exact W_small (by omega)
end Go.Proofs.Ytfkkhfiiokhnaae
namespace Go.Proofs.Ytfkkhfiiokhnaae
open Go.RowKit

theorem fieldG1 (a b c : Value) (W : World) : (Instr.field 35 (.agg #[a, b, c]) 1).run Try.prog W = .ok b W := by
  kernel_rfl
theorem allFix_no {t : T} {k : Nat} (hk : k < colN t) (h : ¬ (sd t.cols k).1 = 1) : allFix t = false := by
  unfold allFix
  rw [List.all_eq_false]
  exact ⟨k, List.mem_range.2 hk, by simp [kindP, h]⟩
theorem allFix_yes {t : T} (h : ∀ i, i < colN t → (sd t.cols (i : Nat)).1 = 1) : allFix t = true := by
  unfold allFix
  rw [List.all_eq_true]
  intro k hk
  simp [kindP, h k (List.mem_range.1 hk)]
set_option maxRecDepth 100000 in
set_option maxHeartbeats 2000000 in
theorem implColAllFixed (ac ar : Option Addr) (cc cr : Nat) (t : T) (hD : Drawn t) (w : World) {z : Nat} (hc : ColsAt w z (.slice ac t.cols.length cc) t.cols) (hr : RowsAt w z (.slice ar t.rows.length cr) t.rows) :
    Calls Try.prog 20 #[.agg #[.slice ac t.cols.length cc, .int .i64 t.head, .int .i64 t.foot, .slice ar t.rows.length cr, .int .i64 t.gap]] w fun e w' => e = .returned (.bool (tblB t && allFix t)) ∧ Below w.heap.size w w' := by
  have hf0 := field0
  have hf1 := fieldG1
  obtain ⟨_, C, hgc, hC88, _⟩ := cel_of hD
  have HCN := Hid.intro (colN_of hgc)
  have HM : Hid (∀ W, Below w.heap.size w W → ColsAt W z (.slice ac t.cols.length cc) t.cols ∧ RowsAt W z (.slice ar t.rows.length cr) t.rows) := fun W k => ⟨hc.kept k, hr.kept k⟩
  have K0 : Hid (Below w.heap.size w (w.alloc (.cells #[.slice ac t.cols.length cc, .int .i64 t.head, .int .i64 t.foot, .slice ar t.rows.length cr, .int .i64 t.gap] 26))) := k_alloc (Below.refl _ _) _
  have X0 : Hid ((w.alloc (.cells #[.slice ac t.cols.length cc, .int .i64 t.head, .int .i64 t.foot, .slice ar t.rows.length cr, .int .i64 t.gap] 26)).heap[w.heap.size]? = some (.cells #[.slice ac t.cols.length cc, .int .i64 t.head, .int .i64 t.foot, .slice ar t.rows.length cr, .int .i64 t.gap] 26)) := newestB _ _
  have KO := Hid.intro (implTblOk ac ar cc cr t _ (HM.out _ K0.out).1 (HM.out _ K0.out).2)
  have HDr := Hid.intro hD
  have HS := Hid.intro (fun (k : Nat) (W : World) (h : Below w.heap.size w W) => implsaidOf (.slice ac t.cols.length cc) t.cols (k : Int) W (HM.out W h).1)
  clear hc hr hD
  cases htk : tblB t with
  | false =>
    rw [htk] at KO
    clear htk
    go_enter Try.func20, Try.ntmps20
    go_wp2_with fail
    refine KO.out.mono ?_
    rintro e w1 ⟨rfl, hb1⟩
    have K1 := Hid.intro (k_trans K0.out hb1)
    clear hb1 KO
    go_wp2
    go_ret
    exact ⟨rfl, K1.out⟩
  | true =>
    rw [htk] at KO
    clear htk
    have hN : (gOf t).cols = (C : Int) := hgc
    have HgC := Hid.intro hgc
    clear hN hgc
    go_enter Try.func20, Try.ntmps20
    go_wp2_with fail
    refine KO.out.mono ?_
    rintro e w1 ⟨rfl, hb1⟩
    have K1 := Hid.intro (k_trans K0.out hb1)
    have X1 := Hid.intro ((hb1.block w.heap.size (by simp)).trans X0.out)
    obtain ⟨b0, b1, b2, b3, b4⟩ := fiveO X1.out
    have l1 := (Array.getElem?_eq_some_iff.1 X1.out).1
    clear hb1 KO X0 K0
    go_wp2_with fail
    refine (implGrdOf ac ar cc cr t HDr.out _ (HM.out _ K1.out).1 (HM.out _ K1.out).2).mono ?_
    rw [HgC.out]
    rintro e w2 ⟨vg, rfl, hO2, hb2⟩
    obtain ⟨ag, cg, rfl⟩ := own_slice hO2
    have K2 := Hid.intro (k_trans K1.out hb2)
    have X2 := Hid.intro ((hb2.block w.heap.size l1).trans X1.out)
    clear hb2 hO2 b0 b1 b2 b3 b4 l1 X1 K1
    go_wp2_with fail
    go_loopw [10] (fun i W => ∃ k : Nat, k ≤ C ∧ i = .int .i64 k ∧ Hid (∀ j, j < k → (sd t.cols (j : Nat)).1 = 1) ∧ Hid (Below w.heap.size w W) ∧ Hid (W.heap[w.heap.size]? = some (.cells #[.slice ac t.cols.length cc, .int .i64 t.head, .int .i64 t.foot, .slice ar t.rows.length cr, .int .i64 t.gap] 26))) (fun i _ => C - (intOf i).toNat)
    case atStart => exact ⟨0, Nat.zero_le _, rfl, fun j hj => absurd hj (Nat.not_lt_zero _), K2, X2⟩
    case round =>
      obtain ⟨k, hk, rfl, HA, HB, HX⟩ := hrel
      by_cases hlt : k < C
      · have HN : Hid (¬ (sd t.cols (k : Nat)).1 = 1 → allFix t = false) := fun h => allFix_no (by rw [HCN.out]; exact hlt) h
        have HY : Hid ((sd t.cols (k : Nat)).1 = 1 → ∀ j, j < k + 1 → (sd t.cols (j : Nat)).1 = 1) := fun h j hj => by
          rcases Nat.lt_or_eq_of_le (Nat.lt_succ_iff.1 hj) with h1 | rfl
          · exact HA.out j h1
          · exact h
        have KS := Hid.intro (HS.out k wr HB.out)
        generalize sd t.cols (k : Int) = p at HN HY KS
        obtain ⟨b0, b1, b2, b3, b4⟩ := fiveO HX.out
        have l1 := (Array.getElem?_eq_some_iff.1 HX.out).1
        go_wp2_with fail
        refine KS.out.mono ?_
        rintro e w3 ⟨rfl, hb3⟩
        have K3 := Hid.intro (k_trans HB.out hb3)
        have X3 := Hid.intro ((hb3.block w.heap.size l1).trans HX.out)
        clear hb3 b0 b1 b2 b3 b4 l1 KS
        by_cases h1 : p.1 = 1
        · have hne : (p.1 != 1) = false := by rw [h1]; rfl
          have HZ := Hid.intro (HY.out h1)
          clear h1 HY HN HA
          go_wp2
          go_roundw
          case rel => exact ⟨k + 1, by omega, by go_num, HZ, K3, X3⟩
          case measure => simp [intOf]; omega
        · have hne : (p.1 != 1) = true := bne_iff_ne.2 h1
          have HZ := Hid.intro (HN.out h1)
          clear h1 HY HN HA
          go_wp2
          go_ret
          exact ⟨by rw [HZ.out]; rfl, K3.out⟩
      · obtain rfl : k = C := by omega
        have HZ : Hid (allFix t = true) := allFix_yes (fun i hi => HA.out i (by rw [HCN.out] at hi; exact hi))
        clear HA
        go_wp2
        go_ret
        exact ⟨by rw [HZ.out]; rfl, HB.out⟩
end Go.Proofs.Ytfkkhfiiokhnaae
namespace Go.Proofs.Ytfkkhfiiokhnaae
open Go.RowKit

set_option maxRecDepth 100000 in
set_option maxHeartbeats 2000000 in
theorem specColAllFixed (ac ar : Option Addr) (cc cr : Nat) (t : T) (hD : Drawn t) (w : World) {z : Nat} (hc : ColsAt w z (.slice ac t.cols.length cc) t.cols) (hr : RowsAt w z (.slice ar t.rows.length cr) t.rows) :
    Calls Try.prog 21 #[.agg #[.slice ac t.cols.length cc, .int .i64 t.head, .int .i64 t.foot, .slice ar t.rows.length cr, .int .i64 t.gap]] w fun e w' => e = .returned (.bool (tblB t && allFix t)) ∧ Below w.heap.size w w' := by
  have hf0 := field0
  obtain ⟨_, C, hgc, hC88, _⟩ := cel_of hD
  have HCN := Hid.intro (colN_of hgc)
  have HM : Hid (∀ W, Below w.heap.size w W → ColsAt W z (.slice ac t.cols.length cc) t.cols ∧ RowsAt W z (.slice ar t.rows.length cr) t.rows) := fun W k => ⟨hc.kept k, hr.kept k⟩
  have K0 : Hid (Below w.heap.size w (w.alloc (.cells #[.slice ac t.cols.length cc, .int .i64 t.head, .int .i64 t.foot, .slice ar t.rows.length cr, .int .i64 t.gap] 26))) := k_alloc (Below.refl _ _) _
  have X0 : Hid ((w.alloc (.cells #[.slice ac t.cols.length cc, .int .i64 t.head, .int .i64 t.foot, .slice ar t.rows.length cr, .int .i64 t.gap] 26)).heap[w.heap.size]? = some (.cells #[.slice ac t.cols.length cc, .int .i64 t.head, .int .i64 t.foot, .slice ar t.rows.length cr, .int .i64 t.gap] 26)) := newestB _ _
  have KO := Hid.intro (specTblOk ac ar cc cr t _ (HM.out _ K0.out).1 (HM.out _ K0.out).2)
  have HS := Hid.intro (fun (k : Nat) (W : World) (h : Below w.heap.size w W) => specl5Said ac ar cc cr t (k : Int) (Int.natCast_nonneg k) W (HM.out W h).1)
  cases htk : tblB t with
  | false =>
    rw [htk] at KO
    clear htk hc hr hD
    go_enter Try.func21, Try.ntmps21
    go_wp2_with fail
    refine KO.out.mono ?_
    rintro e w1 ⟨rfl, hb1⟩
    have K1 := Hid.intro (k_trans K0.out hb1)
    clear hb1 KO
    go_wp2
    go_ret
    exact ⟨rfl, K1.out⟩
  | true =>
    rw [htk] at KO
    have K3 := Hid.intro (fun W (h : Below w.heap.size w W) => l3Of_g ac ar cc cr t hD htk W (HM.out W h).2)
    clear htk hc hr hD
    have HgC := Hid.intro hgc
    clear hgc
    go_enter Try.func21, Try.ntmps21
    go_wp2_with fail
    refine KO.out.mono ?_
    rintro e w1 ⟨rfl, hb1⟩
    have K1 := Hid.intro (k_trans K0.out hb1)
    have X1 := Hid.intro ((hb1.block w.heap.size (by simp)).trans X0.out)
    obtain ⟨b0, b1, b2, b3, b4⟩ := fiveO X1.out
    have l1 := (Array.getElem?_eq_some_iff.1 X1.out).1
    clear hb1 KO X0 K0
    go_wp2_with fail
    refine (K3.out _ K1.out).mono ?_
    rw [HgC.out]
    rintro e w2 ⟨ag, cg, rfl, _, hb2⟩
    have K2 := Hid.intro (k_alloc (k_trans K1.out hb2) (.cells #[.int .i64 (gOf t).rows, .int .i64 (C : Int), .slice ag (gOf t).cells.length cg] 35))
    have X2 : Hid ((w2.alloc (.cells #[.int .i64 (gOf t).rows, .int .i64 (C : Int), .slice ag (gOf t).cells.length cg] 35)).heap[w.heap.size]? = some (.cells #[.slice ac t.cols.length cc, .int .i64 t.head, .int .i64 t.foot, .slice ar t.rows.length cr, .int .i64 t.gap] 26)) := (Below.heap_alloc _ _ _ (Nat.lt_of_lt_of_le l1 hb2.size)).trans ((hb2.block w.heap.size l1).trans X1.out)
    have Y2 : Hid ((w2.alloc (.cells #[.int .i64 (gOf t).rows, .int .i64 (C : Int), .slice ag (gOf t).cells.length cg] 35)).heap[w2.heap.size]? = some (.cells #[.int .i64 (gOf t).rows, .int .i64 (C : Int), .slice ag (gOf t).cells.length cg] 35)) := newestB _ _
    clear hb2 b0 b1 b2 b3 b4 l1 X1 K1 K3
    go_upto_region 4 with fail
    generalize w2.alloc (.cells #[.int .i64 (gOf t).rows, .int .i64 (C : Int), .slice ag (gOf t).cells.length cg] 35) = W2 at K2 X2 Y2 ⊢
    generalize w2.heap.size = gb at Y2 ⊢
    go_wp2_with fail
    go_loopw [4] (fun i W => ∃ k : Nat, k ≤ C ∧ i = .int .i64 k ∧ Hid (∀ j, j < k → (sd t.cols (j : Nat)).1 = 1) ∧ Hid (Below w.heap.size w W) ∧ Hid (W.heap[w.heap.size]? = some (.cells #[.slice ac t.cols.length cc, .int .i64 t.head, .int .i64 t.foot, .slice ar t.rows.length cr, .int .i64 t.gap] 26)) ∧ Hid (W.heap[gb]? = some (.cells #[.int .i64 (gOf t).rows, .int .i64 (C : Int), .slice ag (gOf t).cells.length cg] 35))) (fun i _ => C - (intOf i).toNat)
    case atStart => exact ⟨0, Nat.zero_le _, rfl, fun j hj => absurd hj (Nat.not_lt_zero _), K2, X2, Y2⟩
    case round =>
      obtain ⟨k, hk, rfl, HA, HB, HX, HY⟩ := hrel
      obtain ⟨g0, g1, g2⟩ := threeO HY.out
      have lg := (Array.getElem?_eq_some_iff.1 HY.out).1
      by_cases hlt : k < C
      · have HN : Hid (¬ (sd t.cols (k : Nat)).1 = 1 → allFix t = false) := fun h => allFix_no (by rw [HCN.out]; exact hlt) h
        have HZ : Hid ((sd t.cols (k : Nat)).1 = 1 → ∀ j, j < k + 1 → (sd t.cols (j : Nat)).1 = 1) := fun h j hj => by
          rcases Nat.lt_or_eq_of_le (Nat.lt_succ_iff.1 hj) with h1 | rfl
          · exact HA.out j h1
          · exact h
        have KS := Hid.intro (HS.out k wr HB.out)
        generalize sd t.cols (k : Int) = p at HN HZ KS
        obtain ⟨b0, b1, b2, b3, b4⟩ := fiveO HX.out
        have l1 := (Array.getElem?_eq_some_iff.1 HX.out).1
        go_wp2_with fail
        refine KS.out.mono ?_
        rintro e w3 ⟨rfl, hb3⟩
        have K3 := Hid.intro (k_trans HB.out hb3)
        have X3 := Hid.intro ((hb3.block w.heap.size l1).trans HX.out)
        have Y3 := Hid.intro ((hb3.block gb lg).trans HY.out)
        clear hb3 b0 b1 b2 b3 b4 l1 lg g0 g1 g2 KS
        by_cases h1 : p.1 = 1
        · have hne : (p.1 != 1) = false := by rw [h1]; rfl
          have HW := Hid.intro (HZ.out h1)
          clear h1 HZ HN HA
          go_wp2
          go_roundw
          case rel => exact ⟨k + 1, by omega, by go_num, HW, K3, X3, Y3⟩
          case measure => simp [intOf]; omega
        · have hne : (p.1 != 1) = true := bne_iff_ne.2 h1
          have HW := Hid.intro (HN.out h1)
          clear h1 HZ HN HA
          go_wp2
          go_ret
          exact ⟨by rw [HW.out]; rfl, K3.out⟩
      · obtain rfl : k = C := by omega
        have HW : Hid (allFix t = true) := allFix_yes (fun i hi => HA.out i (by rw [HCN.out] at hi; exact hi))
        clear HA
        go_wp2
        go_ret
        exact ⟨by rw [HW.out]; rfl, HB.out⟩
end Go.Proofs.Ytfkkhfiiokhnaae
