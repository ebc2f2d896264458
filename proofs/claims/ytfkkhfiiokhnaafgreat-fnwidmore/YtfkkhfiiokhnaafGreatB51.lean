/-
  PROVED HERE: the model's WidCols at a drawn table and any width is the list widT, in memory of its own; nothing that was in memory is turned. Also: columns, however wide a table may be, are small, no less wide than at least, and no cell is less wide than its longest word. Also: how wide a table is, columns and what stands between: facts on numbers. Also: the model's WidTable at a drawn table; nothing that was in memory is turned. Also: a table that may be one wider is as wide, or one wider: facts on numbers.
-/
import Derived.Test.YtfkkhfiiokhnaafGreatB46
import Derived.Test.YtfkkhfiiokhnaafGreatB50
import Derived.Test.YtfkkhfiiokhnaafGreatB6
import Derived.Test.YtfkkhfiiokhnaafGreatB40
import Derived.Test.YtfkkhfiiokhnaafGreatB34
import Derived.Test.YtfkkhfiiokhnaafGreatB14
namespace Go.Proofs.YtfkkhfiiokhnaafGreat
open Go.RowKit

set_option maxRecDepth 100000 in
set_option maxHeartbeats 1000000 in
theorem specWidCols (ac ar : Option Addr) (cc cr : Nat) (t : T) (hD : Drawn t) (width : Int) (w : World) {z : Nat} (hc : ColsAt w z (.slice ac t.cols.length cc) t.cols) (hr : RowsAt w z (.slice ar t.rows.length cr) t.rows) :
    Calls Tryz.prog 10 #[.agg #[.slice ac t.cols.length cc, .int .i64 t.head, .int .i64 t.foot, .slice ar t.rows.length cr, .int .i64 t.gap], .int .i64 width] w fun e w' => ∃ v, e = .returned v ∧ RowI w' w.heap.size w'.heap.size v (widT t width) ∧ Below w.heap.size w w' := by
  have K0 := k_alloc (Below.refl w.heap.size w) (.cells #[.slice ac t.cols.length cc, .int .i64 t.head, .int .i64 t.foot, .slice ar t.rows.length cr, .int .i64 t.gap] 26)
  have X0 := newestB w (.cells #[.slice ac t.cols.length cc, .int .i64 t.head, .int .i64 t.foot, .slice ar t.rows.length cr, .int .i64 t.gap] 26)
  obtain ⟨W0, hW0⟩ : ∃ W0, w.alloc (.cells #[.slice ac t.cols.length cc, .int .i64 t.head, .int .i64 t.foot, .slice ar t.rows.length cr, .int .i64 t.gap] 26) = W0 := ⟨_, rfl⟩
  rw [hW0] at K0 X0
  have HP : Hid (Below w.heap.size w W0 ∧ TA W0 z ac ar cc cr t ∧ W0.heap[w.heap.size]? = some (.cells #[.slice ac t.cols.length cc, .int .i64 t.head, .int .i64 t.foot, .slice ar t.rows.length cr, .int .i64 t.gap] 26)) := ⟨K0, ⟨hc.kept K0, hr.kept K0⟩, X0⟩
  have KO := Hid.intro (specTblOk ac ar cc cr t W0 HP.out.2.1.1 HP.out.2.1.2)
  obtain ⟨b0, b1, b2, b3, b4⟩ := fiveO X0
  clear hc hr K0 X0
  cases htk : tblB t with
  | false =>
    rw [htk] at KO
    have HE : Hid (widT t width = []) := by rw [Hid, widT, htk]; rfl
    clear htk
    go_enter Tryz.func10, Tryz.ntmps10
    go_upto_region 1 with fail
    clear hW0
    go_wp2_with fail
    refine KO.out.mono ?_
    rintro e w1 ⟨rfl, hb1⟩
    have HK1 := Hid.intro (k_trans HP.out.1 hb1)
    clear hb1 KO b0 b1 b2 b3 b4 HP
    go_wp2
    go_ret
    exact ⟨_, rfl, by rw [HE.out]; exact row_lit0 _ _ HK1.out.size, k_alloc HK1.out _⟩
  | true =>
    rw [htk] at KO
    have HIn := Hid.intro (l1In_any width 0 300)
    cases hin : inB width 0 300 with
    | false =>
      have HE : Hid (widT t width = []) := by rw [Hid, widT, htk, hin]; rfl
      rw [hin] at HIn
      clear htk hin hD
      go_enter Tryz.func10, Tryz.ntmps10
      go_upto_region 1 with fail
      clear hW0
      go_wp2_with fail
      refine KO.out.mono ?_
      rintro e w1 ⟨rfl, hb1⟩
      have HK1 := Hid.intro (k_trans HP.out.1 hb1)
      clear hb1 KO b0 b1 b2 b3 b4 HP
      go_wp2_with fail
      refine (HIn.out _).mono ?_
      rintro e w2 ⟨rfl, rfl⟩
      go_wp2
      go_ret
      exact ⟨_, rfl, by rw [HE.out]; exact row_lit0 _ _ HK1.out.size, k_alloc HK1.out _⟩
    | true =>
      have K3 := Hid.intro (fun W h => l3Of_g ac ar cc cr t hD htk W (z := z) h)
      have hw : 0 ≤ width ∧ width ≤ 300 := by simpa [inB] using hin
      have KL := Hid.intro (fun ag cg W zg h1 h2 h3 => specl6Cols ac ar cc cr t hD ag cg width hw htk W (z := z) (zg := zg) h1 h2 h3)
      have HE : Hid (widT t width = widL t width) := by rw [Hid, widT, htk, hin]; rfl
      rw [hin] at HIn
      clear htk hin hD
      go_enter Tryz.func10, Tryz.ntmps10
      go_upto_region 1 with fail
      clear hW0
      go_wp2_with fail
      refine KO.out.mono ?_
      rintro e w1 ⟨rfl, hb1⟩
      have HP1 : Hid (Below w.heap.size w w1 ∧ TA w1 z ac ar cc cr t ∧ w1.heap[w.heap.size]? = some (.cells #[.slice ac t.cols.length cc, .int .i64 t.head, .int .i64 t.foot, .slice ar t.rows.length cr, .int .i64 t.gap] 26)) := ⟨k_trans HP.out.1 hb1, HP.out.2.1.kept hb1, (hb1.block _ (Array.getElem?_eq_some_iff.1 HP.out.2.2).1).trans HP.out.2.2⟩
      clear hb1 KO b0 b1 b2 b3 b4 HP
      go_wp2_with fail
      refine (HIn.out _).mono ?_
      rintro e w1 ⟨rfl, rfl⟩
      go_upto_region 3 with fail
      obtain ⟨b0, b1, b2, b3, b4⟩ := fiveO HP1.out.2.2
      have ht1 := (Array.getElem?_eq_some_iff.1 HP1.out.2.2).1
      have HTd : Hid (TA w1.drew z ac ar cc cr t) := HP1.out.2.1.kept (k_drew (Below.refl _ _))
      have HBd := Hid.intro (k_drew HP1.out.1)
      have HXd : Hid (w1.drew.heap[w.heap.size]? = some (.cells #[.slice ac t.cols.length cc, .int .i64 t.head, .int .i64 t.foot, .slice ar t.rows.length cr, .int .i64 t.gap] 26)) := HP1.out.2.2
      go_region_with (first
        | (go_at_call 42; refine (K3.out _ HTd.out.2).mono ?_; rintro e w2 ⟨ag, cg, rfl, hG2, hb2⟩; have HG2 := Hid.intro hG2; have HT2 := Hid.intro (HTd.out.kept hb2); have HB2 := Hid.intro (k_trans HBd.out hb2); have HX2 := Hid.intro ((hb2.block _ (Array.getElem?_eq_some_iff.1 HXd.out).1).trans HXd.out); clear hG2 hb2; obtain ⟨p0, p1, p2, p3, p4⟩ := fiveO HX2.out; have ht2 := (Array.getElem?_eq_some_iff.1 HX2.out).1)
        | (go_at_call 41; refine (KL.out ag cg _ _ HT2.out.1 HT2.out.2 HG2.out).mono ?_; rintro e w3 ⟨v3, rfl, hr3, hb3⟩; have R3 := Hid.intro (hr3.base (B' := w.heap.size) HB2.out.size (Nat.le_refl _)); have HB3 := Hid.intro (k_trans HB2.out hb3); clear hr3 hb3))
      all_goals
        go_wp2
        go_ret
        exact ⟨_, rfl, by rw [HE.out]; exact R3.out, HB3.out⟩
end Go.Proofs.YtfkkhfiiokhnaafGreat
namespace Go.Proofs.YtfkkhfiiokhnaafGreat
open Go.RowKit

theorem wid_ge {t : T} (hD : Drawn t) (hok : tblB t = true) {width : Int} (hw : 0 ≤ width ∧ width ≤ 300) : LeL (leastL t) (widL t width) := by
  obtain ⟨h1, _, h3⟩ := wid_facts hD hok hw
  exact ⟨by rw [leastL_len, h1], fun i hi => (h3 i (by rw [leastL_len] at hi; exact hi)).1⟩
theorem wid_up {t : T} (hD : Drawn t) (hok : tblB t = true) {width : Int} (hw : 0 ≤ width ∧ width ≤ 300) : UpB (widL t width) 5000 := by
  obtain ⟨h1, h2, h3⟩ := wid_facts hD hok hw
  have hup := leastL_up hD
  have hll := leastL_len t
  obtain ⟨hC1, hC88, _, _, _, _⟩ := acr_least hD hok
  have hg : 0 ≤ t.gap ∧ t.gap ≤ 3 := by
    simp only [tblB, inB, Bool.and_eq_true, decide_eq_true_eq] at hok
    exact hok.2.2.1
  have hgg : 0 ≤ t.gap * ((colN t : Int) - 1) := Int.mul_nonneg hg.1 (by omega)
  have hpos : ∀ i, i < (widL t width).length → 0 ≤ (widL t width).getD i 0 := fun i hi => by
    have a := h3 i (by omega)
    have b := hup i (by omega)
    omega
  intro i hi
  refine ⟨hpos i hi, ?_⟩
  split at h2
  · have hs : (widL t width).sum = (leastL t).sum := by omega
    by_cases hlt : (leastL t).getD i 0 < (widL t width).getD i 0
    · have := sum_lt (a := leastL t) (b := widL t width) (by omega) (fun j hj => (h3 j (by omega)).1) i (by omega) hlt
      omega
    · have := hup i (by omega)
      omega
  · have := sum_ge hpos hi
    omega
theorem wid_cell {t : T} (hD : Drawn t) (hok : tblB t = true) {width : Int} (hw : 0 ≤ width ∧ width ≤ 300) {C : Nat} (hgc : (gOf t).cols = C) {k : Nat} (hk : k < (gOf t).cells.length) (hcel : Cel t C ((gOf t).cells.getD k dG)) : ¬ cellV (widL t width) t.gap ((gOf t).cells.getD k dG) < ((leastOf (wordsW (textOf t ((gOf t).cells.getD k dG))) : Nat) : Int) := by
  have h1 := (wid_facts hD hok hw).1
  have hCN := colN_of hgc
  have hup := wid_up hD hok hw
  rw [cellV_has hcel (fun i hi => by have := hup i hi; omega) (by omega)]
  have h2 := hasV_le hcel (wid_ge hD hok hw) (by rw [leastL_len]; exact hCN) t.gap
  have h3 := least_has hD hk
  exact Int.not_lt.2 (Int.le_trans h3 h2)
theorem widT_no {t : T} {x : Int} (h : ¬ 0 < (widT t x).length) : widT t x = [] := List.eq_nil_of_length_eq_zero (by omega)
/-- what is known where there are columns -/
theorem widT_yes {t : T} {x : Int} (h : 0 < (widT t x).length) : tblB t = true ∧ (0 ≤ x ∧ x ≤ 300) ∧ widT t x = widL t x := by
  unfold widT at h ⊢
  split at h
  · rename_i hm
    rw [if_pos hm]
    rw [Bool.and_eq_true] at hm
    exact ⟨hm.1, by simpa [inB] using hm.2, rfl⟩
  · simp at h
end Go.Proofs.YtfkkhfiiokhnaafGreat
namespace Go.Proofs.YtfkkhfiiokhnaafGreat
open Go.RowKit

/-- how wide a table is -/
def tabV (t : T) (width : Int) : Int := acrV (widT t width) t.gap
theorem tabV_no {t : T} {width : Int} (h : (tblB t && inB width 0 300) = false) : tabV t width = 0 := by unfold tabV widT; rw [h]; rfl
theorem acr_wid {t : T} (hD : Drawn t) (hok : tblB t = true) {width : Int} (hw : 0 ≤ width ∧ width ≤ 300) :
    widT t width = widL t width ∧ (widL t width).length = colN t ∧ tabV t width = (widL t width).sum + t.gap * ((colN t : Int) - 1) ∧ (widL t width).all wtB = true ∧ 0 ≤ (widL t width).sum ∧ (widL t width).sum ≤ 1000000 ∧ 0 ≤ t.gap * ((colN t : Int) - 1) ∧ t.gap * ((colN t : Int) - 1) ≤ 1000 ∧
    tabV t width = (if width < acrV (leastL t) t.gap ∨ allFix t = true then acrV (leastL t) t.gap else width) := by
  obtain ⟨hC1, hC2, ea, _, _, _⟩ := acr_least hD hok
  obtain ⟨f1, f2, _⟩ := wid_facts hD hok hw
  have hup := wid_up hD hok hw
  have hall : (widL t width).all wtB = true := all_wt (fun i hi => by have := hup i hi; omega)
  have hs := sum_bound hall
  have hsb := sum_upB (l := widL t width) (B := 5000) (fun x hx => hup.mem hx)
  have hg : 0 ≤ t.gap ∧ t.gap ≤ 3 := by
    simp only [tblB, inB, Bool.and_eq_true, decide_eq_true_eq] at hok
    exact hok.2.2.1
  have hg1 : 0 ≤ t.gap * ((colN t : Int) - 1) := Int.mul_nonneg hg.1 (by omega)
  have hg2 : t.gap * ((colN t : Int) - 1) ≤ 3 * 87 := Int.mul_le_mul hg.2 (by omega) (by omega) (by omega)
  have e0 : widT t width = widL t width := by unfold widT; rw [if_pos (by rw [hok, inB_true hw.1 hw.2]; rfl)]
  have e1 : tabV t width = (widL t width).sum + t.gap * ((colN t : Int) - 1) := by
    unfold tabV
    rw [e0, acrV_cons (by omega), f1, W_small (by omega)]
  refine ⟨e0, f1, e1, hall, hs.1, by omega, hg1, by omega, ?_⟩
  rw [e1, f2, ea]
end Go.Proofs.YtfkkhfiiokhnaafGreat
namespace Go.Proofs.YtfkkhfiiokhnaafGreat
open Go.RowKit

structure WtJ (ac ar ag : Option Addr) (cc cr cg : Nat) (t : T) (width gp : Int) (W3 : World) (L : Nat → Bool) (W : World) (v16 v17 v18 v19 v20 v21 v22 v23 v24 v4 : Value) : Prop where
  f0 : L 0 = true → v16 = .agg #[.slice ac t.cols.length cc, .int .i64 t.head, .int .i64 t.foot, .slice ar t.rows.length cr, .int .i64 t.gap]
  f1 : L 1 = true → v17 = .agg #[.int .i64 (gOf t).rows, .int .i64 (gOf t).cols, .slice ag (gOf t).cells.length cg]
  f2 : L 2 = true → v18 = .int .i64 width
  f3 : L 3 = true → IntsAt W v19 (widL t width)
  f4 : L 4 = true → v20 = .int .i64 (widL t width).sum
  f5 : L 5 = true → v21 = .agg #[.slice ac t.cols.length cc, .int .i64 t.head, .int .i64 t.foot, .slice ar t.rows.length cr, .int .i64 t.gap]
  f6 : L 6 = true → v22 = .agg #[.int .i64 (gOf t).rows, .int .i64 (gOf t).cols, .slice ag (gOf t).cells.length cg]
  f7 : L 7 = true → v23 = .int .i64 gp
  f8 : L 8 = true → v24 = .int .i64 ((widL t width).sum + gp)
  f9 : L 9 = true → v4 = .int .i64 ((widL t width).sum + gp)
  b : Below W3.heap.size W3 W

set_option maxRecDepth 100000 in
set_option maxHeartbeats 2000000 in
theorem specWidTable (ac ar : Option Addr) (cc cr : Nat) (t : T) (hD : Drawn t) (width : Int) (w : World) {z : Nat} (hc : ColsAt w z (.slice ac t.cols.length cc) t.cols) (hr : RowsAt w z (.slice ar t.rows.length cr) t.rows) :
    Calls Tryz.prog 18 #[.agg #[.slice ac t.cols.length cc, .int .i64 t.head, .int .i64 t.foot, .slice ar t.rows.length cr, .int .i64 t.gap], .int .i64 width] w fun e w' => e = .returned (.int .i64 (tabV t width)) ∧ Below w.heap.size w w' := by
  have hmx : Tryz.prog.follows .mixedOrders = true := by kernel_rfl
  obtain ⟨W0, hW0⟩ : ∃ W0, w.alloc (.cells #[.slice ac t.cols.length cc, .int .i64 t.head, .int .i64 t.foot, .slice ar t.rows.length cr, .int .i64 t.gap] 26) = W0 := ⟨_, rfl⟩
  have K0 : Below w.heap.size w W0 := by rw [← hW0]; exact k_alloc (Below.refl _ _) _
  have X0 : W0.heap[w.heap.size]? = some (.cells #[.slice ac t.cols.length cc, .int .i64 t.head, .int .i64 t.foot, .slice ar t.rows.length cr, .int .i64 t.gap] 26) := by rw [← hW0]; exact newestB _ _
  have HP : Hid (Below w.heap.size w W0 ∧ TA W0 z ac ar cc cr t ∧ W0.heap[w.heap.size]? = some (.cells #[.slice ac t.cols.length cc, .int .i64 t.head, .int .i64 t.foot, .slice ar t.rows.length cr, .int .i64 t.gap] 26)) := ⟨K0, ⟨hc.kept K0, hr.kept K0⟩, X0⟩
  have KO := Hid.intro (specTblOk ac ar cc cr t W0 HP.out.2.1.1 HP.out.2.1.2)
  obtain ⟨b0, b1, b2, b3, b4⟩ := fiveO X0
  clear hc hr K0 X0
  have HNo : Hid ((tblB t && inB width 0 300) = false → tabV t width = 0) := fun h => tabV_no h
  cases htk : tblB t with
  | false =>
    rw [htk] at KO
    have HE := Hid.intro (HNo.out (by rw [htk]; rfl))
    clear htk HNo
    go_enter Tryz.func18, Tryz.ntmps18
    go_upto_region 1 with fail
    clear hW0
    go_wp2_with fail
    refine KO.out.mono ?_
    rintro e w1 ⟨rfl, hb1⟩
    have HK1 := Hid.intro (k_trans HP.out.1 hb1)
    clear hb1 KO b0 b1 b2 b3 b4 HP
    go_wp2
    go_ret
    exact ⟨by rw [HE.out]; rfl, HK1.out⟩
  | true =>
    rw [htk] at KO
    have HIn := Hid.intro (l1In_any width 0 300)
    cases hin : inB width 0 300 with
    | false =>
      have HE := Hid.intro (HNo.out (by rw [htk, hin]; rfl))
      rw [hin] at HIn
      clear htk hin hD HNo
      go_enter Tryz.func18, Tryz.ntmps18
      go_upto_region 1 with fail
      clear hW0
      go_wp2_with fail
      refine KO.out.mono ?_
      rintro e w1 ⟨rfl, hb1⟩
      have HK1 := Hid.intro (k_trans HP.out.1 hb1)
      clear hb1 KO b0 b1 b2 b3 b4 HP
      go_wp2_with fail
      refine (HIn.out _).mono ?_
      rintro e w2 ⟨rfl, rfl⟩
      go_wp2
      go_ret
      exact ⟨by rw [HE.out]; rfl, HK1.out⟩
    | true =>
      have hw : 0 ≤ width ∧ width ≤ 300 := by simpa [inB] using hin
      obtain ⟨_, hlC, hT, hall, hs0, hs1, hg0, hg1, _⟩ := acr_wid hD htk hw
      obtain ⟨hC1, hC88, _, _, _, _⟩ := acr_least hD htk
      obtain ⟨_, C0, hgc0, _, _⟩ := cel_of hD
      have hgc : (gOf t).cols = (colN t : Int) := by rw [colN_of hgc0]; exact hgc0
      have hgap : 0 ≤ t.gap ∧ t.gap ≤ 3 := by
        have hok := htk
        simp only [tblB, inB, Bool.and_eq_true, decide_eq_true_eq] at hok
        exact hok.2.2.1
      have HT := Hid.intro hT
      have HA := Hid.intro hall
      have HN : Hid ((widL t width).length ≤ 1000) := by rw [Hid, hlC]; omega
      have KG := Hid.intro (fun (ag : Option Addr) (cg : Nat) W => specl5Gaps ac ar cc cr t (gOf t).rows (.slice ag (gOf t).cells.length cg) (colN t) ⟨hC1, hC88⟩ hgap W)
      rw [← hgc] at KG
      have hgp : t.gap * ((gOf t).cols - 1) = t.gap * ((colN t : Int) - 1) := by rw [hgc]
      rw [hgp] at KG
      have KL3 := Hid.intro (fun (ag : Option Addr) (cg : Nat) W {zg : Nat} (h1 : TA W z ac ar cc cr t) (h2 : GsAt W zg (.slice ag (gOf t).cells.length cg) (gOf t).cells) => specl6Cols ac ar cc cr t hD ag cg width hw htk W h1.1 h1.2 h2)
      have K3O := Hid.intro (fun W (h1 : TA W z ac ar cc cr t) => l3Of_g ac ar cc cr t hD htk W h1.2)
      have HGk := Hid.intro (gOf_gok hD)
      rw [hin] at HIn
      clear hT hall hlC hC1 hC88 hgc0 hgc hgap hgp htk hin hD HNo
      generalize t.gap * ((colN t : Int) - 1) = gp at HT KG hg0 hg1
      have HWr : Hid (IntKind.i64.wrap ((widL t width).sum + gp) = (widL t width).sum + gp) := by unfold Hid; rw [IntKind.wrap_i64]; omega
      go_enter Tryz.func18, Tryz.ntmps18
      go_upto_region 1 with fail
      clear hW0
      go_wp2_with fail
      refine KO.out.mono ?_
      rintro e w1 ⟨rfl, hb1⟩
      have HP1 : Hid (Below w.heap.size w w1 ∧ TA w1 z ac ar cc cr t ∧ w1.heap[w.heap.size]? = some (.cells #[.slice ac t.cols.length cc, .int .i64 t.head, .int .i64 t.foot, .slice ar t.rows.length cr, .int .i64 t.gap] 26)) := ⟨k_trans HP.out.1 hb1, HP.out.2.1.kept hb1, (hb1.block _ (Array.getElem?_eq_some_iff.1 HP.out.2.2).1).trans HP.out.2.2⟩
      clear hb1 KO b0 b1 b2 b3 b4 HP
      go_wp2_with fail
      refine (HIn.out _).mono ?_
      rintro e w2 ⟨rfl, rfl⟩
      clear HIn
      obtain ⟨b0, b1, b2, b3, b4⟩ := fiveO HP1.out.2.2
      have l1 := (Array.getElem?_eq_some_iff.1 HP1.out.2.2).1
      go_wp2_with fail
      refine (K3O.out _ HP1.out.2.1).mono ?_
      rintro e w3 ⟨ag, cg, rfl, hG, hb3⟩
      have K3 := k_alloc (k_trans HP1.out.1 hb3) (.cells #[.int .i64 (gOf t).rows, .int .i64 (gOf t).cols, .slice ag (gOf t).cells.length cg] 46)
      have HTA := Hid.intro ((HP1.out.2.1.kept hb3).kept (k_alloc (Below.refl _ _) (.cells #[.int .i64 (gOf t).rows, .int .i64 (gOf t).cols, .slice ag (gOf t).cells.length cg] 46)))
      have HGs := Hid.intro (hG.kept (k_alloc (Below.refl _ _) (.cells #[.int .i64 (gOf t).rows, .int .i64 (gOf t).cols, .slice ag (gOf t).cells.length cg] 46)))
      have HX : Hid ((w3.alloc (.cells #[.int .i64 (gOf t).rows, .int .i64 (gOf t).cols, .slice ag (gOf t).cells.length cg] 46)).heap[w.heap.size]? = some (.cells #[.slice ac t.cols.length cc, .int .i64 t.head, .int .i64 t.foot, .slice ar t.rows.length cr, .int .i64 t.gap] 26)) := (Below.heap_alloc _ _ _ (Nat.lt_of_lt_of_le l1 hb3.size)).trans ((hb3.block _ l1).trans HP1.out.2.2)
      have HY : Hid ((w3.alloc (.cells #[.int .i64 (gOf t).rows, .int .i64 (gOf t).cols, .slice ag (gOf t).cells.length cg] 46)).heap[w3.heap.size]? = some (.cells #[.int .i64 (gOf t).rows, .int .i64 (gOf t).cols, .slice ag (gOf t).cells.length cg] 46)) := newestB _ _
      have HK3 := Hid.intro K3
      clear hG hb3 K3 b0 b1 b2 b3 b4 l1 HP1 K3O
      go_upto_region 4 with fail
      generalize w3.alloc (.cells #[.int .i64 (gOf t).rows, .int .i64 (gOf t).cols, .slice ag (gOf t).cells.length cg] 46) = W3 at HTA HGs HX HY HK3 ⊢
      generalize w3.heap.size = gb at HGs HY ⊢
      have KL := Hid.intro (fun W (h : Below W3.heap.size W3 W) => KL3.out ag cg W (HTA.out.kept h) (HGs.out.kept h))
      have KG := Hid.intro (fun W => KG.out ag cg W)
      have hl0 := (Array.getElem?_eq_some_iff.1 HX.out).1
      have hlg := (Array.getElem?_eq_some_iff.1 HY.out).1
      clear KL3
      refine wp_region_inv2 (fun L act W => ∃ v16 v17 v18 v19 v20 v21 v22 v23 v24 v4 : Value, act = ⟨#[.agg #[.slice ac t.cols.length cc, .int .i64 t.head, .int .i64 t.foot, .slice ar t.rows.length cr, .int .i64 t.gap], .int .i64 width, .pointer (some ⟨w.heap.size, 0, none⟩), undef, v4, .pointer (some ⟨gb, 0, none⟩), .agg #[.slice ac t.cols.length cc, .int .i64 t.head, .int .i64 t.foot, .slice ar t.rows.length cr, .int .i64 t.gap], .bool true, .bool false, .bool false, .int .i64 width, .bool true, .bool false, .bool false, .agg #[.slice ac t.cols.length cc, .int .i64 t.head, .int .i64 t.foot, .slice ar t.rows.length cr, .int .i64 t.gap], .agg #[.int .i64 (gOf t).rows, .int .i64 (gOf t).cols, .slice ag (gOf t).cells.length cg], v16, v17, v18, v19, v20, v21, v22, v23, v24], []⟩ ∧ WtJ ac ar ag cc cr cg t width gp W3 L W v16 v17 v18 v19 v20 v21 v22 v23 v24 v4) hmx (by kernel_rfl) ?hs ?hd ?h0
      case h0 => exact ⟨_, _, _, _, _, _, _, _, _, _, rfl, ⟨(fun h => by cases h), (fun h => by cases h), (fun h => by cases h), (fun h => by cases h), (fun h => by cases h), (fun h => by cases h), (fun h => by cases h), (fun h => by cases h), (fun h => by cases h), (fun h => by cases h), k_drew (Below.refl _ _)⟩⟩
      case hd =>
        intro L act W hJ hall
        obtain ⟨v16, v17, v18, v19, v20, v21, v22, v23, v24, v4, ha, J⟩ := hJ
        subst ha
        obtain rfl := J.f9 (hall 9 (by decide))
        have HB := Hid.intro (k_trans HK3.out J.b)
        clear J hall
        go_wp2
        go_ret
        exact ⟨by rw [HT.out]; rfl, HB.out⟩
      case hs =>
        intro L act W i o hJ hcl ho hLi haft K hK
        obtain ⟨v16, v17, v18, v19, v20, v21, v22, v23, v24, v4, ha, J⟩ := hJ
        subst ha
        have hi' : i < 10 := by
          have := (Array.getElem?_eq_some_iff.1 ho).1
          simpa using this
        rcases (by omega : i = 0 ∨ i = 1 ∨ i = 2 ∨ i = 3 ∨ i = 4 ∨ i = 5 ∨ i = 6 ∨ i = 7 ∨ i = 8 ∨ i = 9) with rfl | rfl | rfl | rfl | rfl | rfl | rfl | rfl | rfl | rfl
        all_goals
          simp only [List.getElem?_toArray, List.getElem?_cons_zero, List.getElem?_cons_succ, Option.some.injEq] at ho
          subst ho
          clear hi'
        · skip
          obtain ⟨q0, q1, q2, q3, q4⟩ := fiveO ((J.b.block _ hl0).trans HX.out)
          have hl := Nat.lt_of_lt_of_le hl0 J.b.size
          go_simp
          exact hK _ _ ⟨_, _, _, _, _, _, _, _, _, _, rfl, ⟨(fun _ => rfl), (fun h => J.f1 (un h)), (fun h => J.f2 (un h)), (fun h => J.f3 (un h)), (fun h => J.f4 (un h)), (fun h => J.f5 (un h)), (fun h => J.f6 (un h)), (fun h => J.f7 (un h)), (fun h => J.f8 (un h)), (fun h => J.f9 (un h)), J.b⟩⟩
        · skip
          obtain ⟨q0, q1, q2⟩ := threeO ((J.b.block _ hlg).trans HY.out)
          have hl := Nat.lt_of_lt_of_le hlg J.b.size
          go_simp
          exact hK _ _ ⟨_, _, _, _, _, _, _, _, _, _, rfl, ⟨(fun h => J.f0 (un h)), (fun _ => rfl), (fun h => J.f2 (un h)), (fun h => J.f3 (un h)), (fun h => J.f4 (un h)), (fun h => J.f5 (un h)), (fun h => J.f6 (un h)), (fun h => J.f7 (un h)), (fun h => J.f8 (un h)), (fun h => J.f9 (un h)), J.b⟩⟩
        · skip
          go_simp
          exact hK _ _ ⟨_, _, _, _, _, _, _, _, _, _, rfl, ⟨(fun h => J.f0 (un h)), (fun h => J.f1 (un h)), (fun _ => rfl), (fun h => J.f3 (un h)), (fun h => J.f4 (un h)), (fun h => J.f5 (un h)), (fun h => J.f6 (un h)), (fun h => J.f7 (un h)), (fun h => J.f8 (un h)), (fun h => J.f9 (un h)), J.b⟩⟩
        · skip
          obtain rfl := J.f0 (haft ⟨0, .data⟩ (by simp) rfl)
          obtain rfl := J.f1 (haft ⟨1, .data⟩ (by simp) rfl)
          obtain rfl := J.f2 (haft ⟨2, .data⟩ (by simp) rfl)
          go_simp
          go_wp2_with (go_at_call 41; refine (KL.out W J.b).mono ?_; rintro e W2 ⟨v, rfl, hR, hb⟩; have hI := hR.at; clear hR)
          exact ⟨_, _, _, _, _, _, _, _, _, _, rfl, ⟨(fun h => J.f0 (un h)), (fun h => J.f1 (un h)), (fun h => J.f2 (un h)), (fun _ => hI), (fun h => J.f4 (un h)), (fun h => J.f5 (un h)), (fun h => J.f6 (un h)), (fun h => J.f7 (un h)), (fun h => J.f8 (un h)), (fun h => J.f9 (un h)), k_trans J.b hb⟩⟩
        · skip
          have hI := J.f3 (haft ⟨3, .data⟩ (by simp) rfl)
          obtain ⟨aq, cq, rfl, _⟩ := hI.form
          go_simp
          go_wp2_with (go_at_call 49; refine (specl1Sum_any _ (widL t width) HN.out HA.out W hI).mono ?_; rintro e W2 ⟨rfl, hE⟩; have hb : Below W.heap.size W W2 := (hE ▸ Below.refl _ _); clear hE)
          exact ⟨_, _, _, _, _, _, _, _, _, _, rfl, ⟨(fun h => J.f0 (un h)), (fun h => J.f1 (un h)), (fun h => J.f2 (un h)), (fun h => (J.f3 (un h)).kept hb), (fun _ => rfl), (fun h => J.f5 (un h)), (fun h => J.f6 (un h)), (fun h => J.f7 (un h)), (fun h => J.f8 (un h)), (fun h => J.f9 (un h)), k_trans J.b hb⟩⟩
        · skip
          obtain ⟨q0, q1, q2, q3, q4⟩ := fiveO ((J.b.block _ hl0).trans HX.out)
          have hl := Nat.lt_of_lt_of_le hl0 J.b.size
          go_simp
          exact hK _ _ ⟨_, _, _, _, _, _, _, _, _, _, rfl, ⟨(fun h => J.f0 (un h)), (fun h => J.f1 (un h)), (fun h => J.f2 (un h)), (fun h => J.f3 (un h)), (fun h => J.f4 (un h)), (fun _ => rfl), (fun h => J.f6 (un h)), (fun h => J.f7 (un h)), (fun h => J.f8 (un h)), (fun h => J.f9 (un h)), J.b⟩⟩
        · skip
          obtain ⟨q0, q1, q2⟩ := threeO ((J.b.block _ hlg).trans HY.out)
          have hl := Nat.lt_of_lt_of_le hlg J.b.size
          go_simp
          exact hK _ _ ⟨_, _, _, _, _, _, _, _, _, _, rfl, ⟨(fun h => J.f0 (un h)), (fun h => J.f1 (un h)), (fun h => J.f2 (un h)), (fun h => J.f3 (un h)), (fun h => J.f4 (un h)), (fun h => J.f5 (un h)), (fun _ => rfl), (fun h => J.f7 (un h)), (fun h => J.f8 (un h)), (fun h => J.f9 (un h)), J.b⟩⟩
        · skip
          obtain rfl := J.f5 (haft ⟨5, .data⟩ (by simp) rfl)
          obtain rfl := J.f6 (haft ⟨6, .data⟩ (by simp) rfl)
          go_simp
          go_wp2_with (go_at_call 50; refine (KG.out W).mono ?_; rintro e W2 ⟨rfl, hb⟩)
          exact ⟨_, _, _, _, _, _, _, _, _, _, rfl, ⟨(fun h => J.f0 (un h)), (fun h => J.f1 (un h)), (fun h => J.f2 (un h)), (fun h => (J.f3 (un h)).kept hb), (fun h => J.f4 (un h)), (fun h => J.f5 (un h)), (fun h => J.f6 (un h)), (fun _ => rfl), (fun h => J.f8 (un h)), (fun h => J.f9 (un h)), k_trans J.b hb⟩⟩
        · skip
          obtain rfl := J.f4 (haft ⟨4, .data⟩ (by simp) rfl)
          obtain rfl := J.f7 (haft ⟨7, .data⟩ (by simp) rfl)
          go_simp
          exact hK _ _ ⟨_, _, _, _, _, _, _, _, _, _, rfl, ⟨(fun h => J.f0 (un h)), (fun h => J.f1 (un h)), (fun h => J.f2 (un h)), (fun h => J.f3 (un h)), (fun h => J.f4 (un h)), (fun h => J.f5 (un h)), (fun h => J.f6 (un h)), (fun h => J.f7 (un h)), (fun _ => by rw [HWr.out]), (fun h => J.f9 (un h)), J.b⟩⟩
        · skip
          obtain rfl := J.f8 (haft ⟨8, .data⟩ (by simp) rfl)
          go_simp
          exact hK _ _ ⟨_, _, _, _, _, _, _, _, _, _, rfl, ⟨(fun h => J.f0 (un h)), (fun h => J.f1 (un h)), (fun h => J.f2 (un h)), (fun h => J.f3 (un h)), (fun h => J.f4 (un h)), (fun h => J.f5 (un h)), (fun h => J.f6 (un h)), (fun h => J.f7 (un h)), (fun h => J.f8 (un h)), (fun _ => rfl), J.b⟩⟩
end Go.Proofs.YtfkkhfiiokhnaafGreat
namespace Go.Proofs.YtfkkhfiiokhnaafGreat
open Go.RowKit

theorem wide_more {t : T} (hD : Drawn t) (hok : tblB t = true) {x : Int} (hx : 0 ≤ x ∧ x < 300) :
    (tabV t (x + 1) = tabV t x ∨ tabV t (x + 1) = tabV t x + 1) ∧ (tabV t (x + 1) == tabV t x) = (decide (x < acrV (leastL t) t.gap) || allFix t) ∧ acrV (leastL t) t.gap ≤ tabV t x ∧ 0 ≤ tabV t x ∧ tabV t x ≤ 2000000 := by
  obtain ⟨_, _, _, _, _, _, _, _, e1⟩ := acr_wid hD hok (width := x) ⟨by omega, by omega⟩
  obtain ⟨_, _, _, _, _, _, _, _, e2⟩ := acr_wid hD hok (width := x + 1) ⟨by omega, by omega⟩
  obtain ⟨_, _, _, h0, h1, _⟩ := acr_least hD hok
  generalize acrV (leastL t) t.gap = fl at *
  cases haf : allFix t with
  | true =>
    rw [if_pos (.inr haf)] at e1 e2
    rw [e1, e2]
    refine ⟨.inl rfl, by simp, by omega, by omega, by omega⟩
  | false =>
    by_cases hl : x < fl
    · rw [if_pos (.inl hl)] at e1
      have e3 : tabV t (x + 1) = fl := by
        rw [e2]
        split
        · rfl
        · rename_i h
          have : ¬ x + 1 < fl := fun h3 => h (.inl h3)
          omega
      rw [e1, e3]
      refine ⟨.inl rfl, by simp [hl], by omega, by omega, by omega⟩
    · rw [if_neg (by rw [haf]; simp; omega)] at e1 e2
      rw [e1, e2]
      refine ⟨.inr rfl, ?_, by omega, by omega, by omega⟩
      have h5 : (x + 1 == x) = false := beq_eq_false_iff_ne.2 (by omega)
      rw [h5]
      simp [hl]
end Go.Proofs.YtfkkhfiiokhnaafGreat
