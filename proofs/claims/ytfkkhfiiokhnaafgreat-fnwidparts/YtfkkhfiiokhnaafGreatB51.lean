/-
  PROVED HERE: the model's WidCols at a drawn table and any width is the list widT, in memory of its own; nothing that was in memory is turned. Also: columns, however wide a table may be, are small, no less wide than at least, and no cell is less wide than its longest word. Also: how wide a table is, columns and what stands between: facts on numbers. Also: parts get their part, if there is room: facts on numbers. Also: the program's ColFloor at a drawn table; nothing that was in memory is turned. Also: what the model's GrdOf answers at a drawn table: its cells at their places, or nothing where it is not ok; nothing that was in memory is turned.
-/
import Derived.Test.YtfkkhfiiokhnaafGreatB46
import Derived.Test.YtfkkhfiiokhnaafGreatB50
import Derived.Test.YtfkkhfiiokhnaafGreatB6
import Derived.Test.YtfkkhfiiokhnaafGreatB40
import Derived.Test.YtfkkhfiiokhnaafGreatB42
import Derived.Test.YtfkkhfiiokhnaafGreatB26
import Derived.Test.YtfkkhfiiokhnaafGreatB20
import Derived.Test.YtfkkhfiiokhnaafGreatB19
import Derived.Test.YtfkkhfiiokhnaafGreatB15
import Derived.Deep.RegionWith
namespace Go.Proofs.YtfkkhfiiokhnaafGreat
open Go.RowKit

set_option maxRecDepth 100000 in
set_option maxHeartbeats 1000000 in
theorem specWidCols (ac ar : Option Addr) (cc cr : Nat) (t : T) (hD : Drawn t) (width : Int) (w : World) {z : Nat} (hc : ColsAt w z (.slice ac t.cols.length cc) t.cols) (hr : RowsAt w z (.slice ar t.rows.length cr) t.rows) :
    Calls Tryz.prog 10 #[.agg #[.slice ac t.cols.length cc, .int .i64 t.head, .int .i64 t.foot, .slice ar t.rows.length cr, .int .i64 t.gap], .int .i64 width] w fun e w' => ∃ v, e = .returned v ∧ RowI w' w.heap.size w'.heap.size v (widT t width) ∧ Below w.heap.size w w' := by
  have K0 := k_alloc (Below.refl w.heap.size w) (.cells #[.slice ac t.cols.length cc, .int .i64 t.head, .int .i64 t.foot, .slice ar t.rows.length cr, .int .i64 t.gap] 26)
  have X0 := newestB w (.cells #[.slice ac t.cols.length cc, .int .i64 t.head, .int .i64 t.foot, .slice ar t.rows.length cr, .int .i64 t.gap] 26)
  obtain ⟨W0, hW0⟩ : ∃ W0, w.alloc (.cells #[.slice ac t.cols.length cc, .int .i64 t.head, .int .i64 t.foot, .slice ar t.rows.length cr, .int .i64 t.gap] 26) = W0 := ⟨_, rfl⟩
  rw [hW0] at K0 X0
  have HP : Hid (Below w.heap.size w W0 ∧ TA W0 z ac ar cc cr t ∧ W0.heap[w.heap.size]? = some (.cells #[.slice ac t.cols.length cc, .int .i64 t.head, .int .i64 t.foot, .slice ar t.rows.length cr, .int .i64 t.gap] 26)) := ⟨K0, ⟨hc.kept K0, hr.kept K0⟩, X0⟩
  have KO := Hid.intro (specTblOk ac ar cc cr t W0 HP.out.2.1.1 HP.out.2.1.2)
  obtain ⟨b0, b1, b2, b3, b4⟩ := fiveO X0
  clear hc hr K0 X0
  cases htk : tblB t with
  | false =>
    rw [htk] at KO
    have HE : Hid (widT t width = []) := by rw [Hid, widT, htk]; rfl
    clear htk
    go_enter Tryz.func10, Tryz.ntmps10
    go_upto_region 1 with fail
    clear hW0
    go_wp2_with fail
    refine KO.out.mono ?_
    rintro e w1 ⟨rfl, hb1⟩
    have HK1 := Hid.intro (k_trans HP.out.1 hb1)
    clear hb1 KO b0 b1 b2 b3 b4 HP
    go_wp2
    go_ret
    exact ⟨_, rfl, by rw [HE.out]; exact row_lit0 _ _ HK1.out.size, k_alloc HK1.out _⟩
  | true =>
    rw [htk] at KO
    have HIn := Hid.intro (l1In_any width 0 300)
    cases hin : inB width 0 300 with
    | false =>
      have HE : Hid (widT t width = []) := by rw [Hid, widT, htk, hin]; rfl
      rw [hin] at HIn
      clear htk hin hD
      go_enter Tryz.func10, Tryz.ntmps10
      go_upto_region 1 with fail
      clear hW0
      go_wp2_with fail
      refine KO.out.mono ?_
      rintro e w1 ⟨rfl, hb1⟩
      have HK1 := Hid.intro (k_trans HP.out.1 hb1)
      clear hb1 KO b0 b1 b2 b3 b4 HP
      go_wp2_with fail
      refine (HIn.out _).mono ?_
      rintro e w2 ⟨rfl, rfl⟩
      go_wp2
      go_ret
      exact ⟨_, rfl, by rw [HE.out]; exact row_lit0 _ _ HK1.out.size, k_alloc HK1.out _⟩
    | true =>
      have K3 := Hid.intro (fun W h => l3Of_g ac ar cc cr t hD htk W (z := z) h)
      have hw : 0 ≤ width ∧ width ≤ 300 := by simpa [inB] using hin
      have KL := Hid.intro (fun ag cg W zg h1 h2 h3 => specl6Cols ac ar cc cr t hD ag cg width hw htk W (z := z) (zg := zg) h1 h2 h3)
      have HE : Hid (widT t width = widL t width) := by rw [Hid, widT, htk, hin]; rfl
      rw [hin] at HIn
      clear htk hin hD
      go_enter Tryz.func10, Tryz.ntmps10
      go_upto_region 1 with fail
      clear hW0
      go_wp2_with fail
      refine KO.out.mono ?_
      rintro e w1 ⟨rfl, hb1⟩
      have HP1 : Hid (Below w.heap.size w w1 ∧ TA w1 z ac ar cc cr t ∧ w1.heap[w.heap.size]? = some (.cells #[.slice ac t.cols.length cc, .int .i64 t.head, .int .i64 t.foot, .slice ar t.rows.length cr, .int .i64 t.gap] 26)) := ⟨k_trans HP.out.1 hb1, HP.out.2.1.kept hb1, (hb1.block _ (Array.getElem?_eq_some_iff.1 HP.out.2.2).1).trans HP.out.2.2⟩
      clear hb1 KO b0 b1 b2 b3 b4 HP
      go_wp2_with fail
      refine (HIn.out _).mono ?_
      rintro e w1 ⟨rfl, rfl⟩
      go_upto_region 3 with fail
      obtain ⟨b0, b1, b2, b3, b4⟩ := fiveO HP1.out.2.2
      have ht1 := (Array.getElem?_eq_some_iff.1 HP1.out.2.2).1
      have HTd : Hid (TA w1.drew z ac ar cc cr t) := HP1.out.2.1.kept (k_drew (Below.refl _ _))
      have HBd := Hid.intro (k_drew HP1.out.1)
      have HXd : Hid (w1.drew.heap[w.heap.size]? = some (.cells #[.slice ac t.cols.length cc, .int .i64 t.head, .int .i64 t.foot, .slice ar t.rows.length cr, .int .i64 t.gap] 26)) := HP1.out.2.2
      go_region_with (first
        | (go_at_call 42; refine (K3.out _ HTd.out.2).mono ?_; rintro e w2 ⟨ag, cg, rfl, hG2, hb2⟩; have HG2 := Hid.intro hG2; have HT2 := Hid.intro (HTd.out.kept hb2); have HB2 := Hid.intro (k_trans HBd.out hb2); have HX2 := Hid.intro ((hb2.block _ (Array.getElem?_eq_some_iff.1 HXd.out).1).trans HXd.out); clear hG2 hb2; obtain ⟨p0, p1, p2, p3, p4⟩ := fiveO HX2.out; have ht2 := (Array.getElem?_eq_some_iff.1 HX2.out).1)
        | (go_at_call 41; refine (KL.out ag cg _ _ HT2.out.1 HT2.out.2 HG2.out).mono ?_; rintro e w3 ⟨v3, rfl, hr3, hb3⟩; have R3 := Hid.intro (hr3.base (B' := w.heap.size) HB2.out.size (Nat.le_refl _)); have HB3 := Hid.intro (k_trans HB2.out hb3); clear hr3 hb3))
      all_goals
        go_wp2
        go_ret
        exact ⟨_, rfl, by rw [HE.out]; exact R3.out, HB3.out⟩
end Go.Proofs.YtfkkhfiiokhnaafGreat
namespace Go.Proofs.YtfkkhfiiokhnaafGreat
open Go.RowKit

theorem wid_ge {t : T} (hD : Drawn t) (hok : tblB t = true) {width : Int} (hw : 0 ≤ width ∧ width ≤ 300) : LeL (leastL t) (widL t width) := by
  obtain ⟨h1, _, h3⟩ := wid_facts hD hok hw
  exact ⟨by rw [leastL_len, h1], fun i hi => (h3 i (by rw [leastL_len] at hi; exact hi)).1⟩
theorem wid_up {t : T} (hD : Drawn t) (hok : tblB t = true) {width : Int} (hw : 0 ≤ width ∧ width ≤ 300) : UpB (widL t width) 5000 := by
  obtain ⟨h1, h2, h3⟩ := wid_facts hD hok hw
  have hup := leastL_up hD
  have hll := leastL_len t
  obtain ⟨hC1, hC88, _, _, _, _⟩ := acr_least hD hok
  have hg : 0 ≤ t.gap ∧ t.gap ≤ 3 := by
    simp only [tblB, inB, Bool.and_eq_true, decide_eq_true_eq] at hok
    exact hok.2.2.1
  have hgg : 0 ≤ t.gap * ((colN t : Int) - 1) := Int.mul_nonneg hg.1 (by omega)
  have hpos : ∀ i, i < (widL t width).length → 0 ≤ (widL t width).getD i 0 := fun i hi => by
    have a := h3 i (by omega)
    have b := hup i (by omega)
    omega
  intro i hi
  refine ⟨hpos i hi, ?_⟩
  split at h2
  · have hs : (widL t width).sum = (leastL t).sum := by omega
    by_cases hlt : (leastL t).getD i 0 < (widL t width).getD i 0
    · have := sum_lt (a := leastL t) (b := widL t width) (by omega) (fun j hj => (h3 j (by omega)).1) i (by omega) hlt
      omega
    · have := hup i (by omega)
      omega
  · have := sum_ge hpos hi
    omega
theorem wid_cell {t : T} (hD : Drawn t) (hok : tblB t = true) {width : Int} (hw : 0 ≤ width ∧ width ≤ 300) {C : Nat} (hgc : (gOf t).cols = C) {k : Nat} (hk : k < (gOf t).cells.length) (hcel : Cel t C ((gOf t).cells.getD k dG)) : ¬ cellV (widL t width) t.gap ((gOf t).cells.getD k dG) < ((leastOf (wordsW (textOf t ((gOf t).cells.getD k dG))) : Nat) : Int) := by
  have h1 := (wid_facts hD hok hw).1
  have hCN := colN_of hgc
  have hup := wid_up hD hok hw
  rw [cellV_has hcel (fun i hi => by have := hup i hi; omega) (by omega)]
  have h2 := hasV_le hcel (wid_ge hD hok hw) (by rw [leastL_len]; exact hCN) t.gap
  have h3 := least_has hD hk
  exact Int.not_lt.2 (Int.le_trans h3 h2)
theorem widT_no {t : T} {x : Int} (h : ¬ 0 < (widT t x).length) : widT t x = [] := List.eq_nil_of_length_eq_zero (by omega)
/-- what is known where there are columns -/
theorem widT_yes {t : T} {x : Int} (h : 0 < (widT t x).length) : tblB t = true ∧ (0 ≤ x ∧ x ≤ 300) ∧ widT t x = widL t x := by
  unfold widT at h ⊢
  split at h
  · rename_i hm
    rw [if_pos hm]
    rw [Bool.and_eq_true] at hm
    exact ⟨hm.1, by simpa [inB] using hm.2, rfl⟩
  · simp at h
end Go.Proofs.YtfkkhfiiokhnaafGreat
namespace Go.Proofs.YtfkkhfiiokhnaafGreat
open Go.RowKit

/-- how wide a table is -/
def tabV (t : T) (width : Int) : Int := acrV (widT t width) t.gap
theorem tabV_no {t : T} {width : Int} (h : (tblB t && inB width 0 300) = false) : tabV t width = 0 := by unfold tabV widT; rw [h]; rfl
theorem acr_wid {t : T} (hD : Drawn t) (hok : tblB t = true) {width : Int} (hw : 0 ≤ width ∧ width ≤ 300) :
    widT t width = widL t width ∧ (widL t width).length = colN t ∧ tabV t width = (widL t width).sum + t.gap * ((colN t : Int) - 1) ∧ (widL t width).all wtB = true ∧ 0 ≤ (widL t width).sum ∧ (widL t width).sum ≤ 1000000 ∧ 0 ≤ t.gap * ((colN t : Int) - 1) ∧ t.gap * ((colN t : Int) - 1) ≤ 1000 ∧
    tabV t width = (if width < acrV (leastL t) t.gap ∨ allFix t = true then acrV (leastL t) t.gap else width) := by
  obtain ⟨hC1, hC2, ea, _, _, _⟩ := acr_least hD hok
  obtain ⟨f1, f2, _⟩ := wid_facts hD hok hw
  have hup := wid_up hD hok hw
  have hall : (widL t width).all wtB = true := all_wt (fun i hi => by have := hup i hi; omega)
  have hs := sum_bound hall
  have hsb := sum_upB (l := widL t width) (B := 5000) (fun x hx => hup.mem hx)
  have hg : 0 ≤ t.gap ∧ t.gap ≤ 3 := by
    simp only [tblB, inB, Bool.and_eq_true, decide_eq_true_eq] at hok
    exact hok.2.2.1
  have hg1 : 0 ≤ t.gap * ((colN t : Int) - 1) := Int.mul_nonneg hg.1 (by omega)
  have hg2 : t.gap * ((colN t : Int) - 1) ≤ 3 * 87 := Int.mul_le_mul hg.2 (by omega) (by omega) (by omega)
  have e0 : widT t width = widL t width := by unfold widT; rw [if_pos (by rw [hok, inB_true hw.1 hw.2]; rfl)]
  have e1 : tabV t width = (widL t width).sum + t.gap * ((colN t : Int) - 1) := by
    unfold tabV
    rw [e0, acrV_cons (by omega), f1, W_small (by omega)]
  refine ⟨e0, f1, e1, hall, hs.1, by omega, hg1, by omega, ?_⟩
  rw [e1, f2, ea]
end Go.Proofs.YtfkkhfiiokhnaafGreat
namespace Go.Proofs.YtfkkhfiiokhnaafGreat
open Go.RowKit

theorem wid_over {t : T} (hD : Drawn t) (hok : tblB t = true) {width : Int} (hw : 0 ≤ width ∧ width ≤ 300) (hr : 0 < restV t width) {k : Nat} (hk : k < colN t) : (out1 t width).getD k 0 ≤ (widL t width).getD k 0 := by
  obtain ⟨_, C, hgc, hC, _⟩ := cel_of hD
  have hCN := colN_of hgc
  obtain ⟨_, _, hl2, _, ho2, _, hs⟩ := wid_steps hD hok hw hr
  have a := (hs k hk).2.1
  unfold widL
  rw [if_neg (by omega)]
  split
  · rename_i h0
    have b := (last_share ho2 (by omega) hl2 h0).2.2 k hk
    omega
  · split
    · rename_i h2
      have b := (last_share ho2 (by omega) hl2 h2).2.2 k hk
      omega
    · exact a
theorem want1_nonneg (t : T) (width : Int) (l : List Int) : ∀ i, i < (want1 t width l).length → 0 ≤ (want1 t width l).getD i 0 := fun i hi => by
  rw [want1_len] at hi
  rw [want1_get hi]
  split <;> omega
theorem parts_get {t : T} (hD : Drawn t) (hok : tblB t = true) {width : Int} (hw : 0 ≤ width ∧ width ≤ 300) (hn : (want1 t width (leastL t)).sum ≤ restV t width) {k : Nat} (hk : k < colN t) (hP : (sd t.cols (k : Int)).1 = 2) :
    width * (sd t.cols (k : Int)).2 / 100 ≤ (widL t width).getD k 0 := by
  have hkl : k < (leastL t).length := by rw [leastL_len]; exact hk
  have hP' : kindP t 2 k = true := by simpa [kindP] using hP
  have hg := want1_get (t := t) (width := width) hkl
  rw [if_pos hP'] at hg
  by_cases hr : 0 < restV t width
  · have h1 := wid_over hD hok hw hr hk
    obtain ⟨ok1, _, _, _, _, _, _⟩ := wid_steps hD hok hw hr
    have e := (upTo_all ok1 hn).1
    have ho : (out1 t width).getD k 0 = (leastL t).getD k 0 + (want1 t width (leastL t)).getD k 0 := by
      unfold out1
      rw [e]
      exact addL_get (by rw [want1_len]) hkl
    omega
  · rw [wid_no (by omega)]
    have h2 := sum_ge (want1_nonneg t width (leastL t)) (i := k) (by rw [want1_len]; exact hkl)
    omega
theorem want_step {t : T} {width : Int} {k : Nat} (hk : k < (leastL t).length) : sumTo (want1 t width (leastL t)) (k + 1) = sumTo (want1 t width (leastL t)) k + (if (sd t.cols (k : Int)).1 = 2 then max 0 (width * (sd t.cols (k : Int)).2 / 100 - (leastL t).getD k 0) else 0) := by
  rw [sumTo_succ (by rw [want1_len]; exact hk), want1_get hk]
  simp [kindP]
end Go.Proofs.YtfkkhfiiokhnaafGreat
namespace Go.Proofs.YtfkkhfiiokhnaafGreat
open Go.RowKit

set_option maxRecDepth 100000 in
set_option maxHeartbeats 2000000 in
theorem implColFloor (ac ar : Option Addr) (cc cr : Nat) (t : T) (hD : Drawn t) (w : World) {z : Nat} (hc : ColsAt w z (.slice ac t.cols.length cc) t.cols) (hr : RowsAt w z (.slice ar t.rows.length cr) t.rows) :
    Calls Tryz.prog 15 #[.agg #[.slice ac t.cols.length cc, .int .i64 t.head, .int .i64 t.foot, .slice ar t.rows.length cr, .int .i64 t.gap]] w fun e w' => e = .returned (.int .i64 (acrV (leastL t) t.gap)) ∧ Below w.heap.size w w' := by
  obtain ⟨W0, hW0⟩ : ∃ W0, w.alloc (.cells #[.slice ac t.cols.length cc, .int .i64 t.head, .int .i64 t.foot, .slice ar t.rows.length cr, .int .i64 t.gap] 26) = W0 := ⟨_, rfl⟩
  have K0 : Below w.heap.size w W0 := by rw [← hW0]; exact k_alloc (Below.refl _ _) _
  have X0 : W0.heap[w.heap.size]? = some (.cells #[.slice ac t.cols.length cc, .int .i64 t.head, .int .i64 t.foot, .slice ar t.rows.length cr, .int .i64 t.gap] 26) := by rw [← hW0]; exact newestB _ _
  have HX := Hid.intro X0
  have HK0 := Hid.intro K0
  have HMd := Hid.intro (And.intro ((hc.kept K0).kept (k_drew (Below.refl _ _))) ((hr.kept K0).kept (k_drew (Below.refl _ _))))
  have HKd := Hid.intro (k_drew (Below.refl W0.heap.size W0))
  obtain ⟨o0, o1, o2, o3, o4⟩ := fiveO X0
  have l0 := (Array.getElem?_eq_some_iff.1 X0).1
  clear hc hr K0 X0
  go_enter Tryz.func15, Tryz.ntmps15
  go_upto_region 1 with fail
  clear hW0
  go_region_with (first
    | (go_at_call 13; refine (implColLeast ac ar cc cr t hD _ HMd.out.1 HMd.out.2).mono ?_; rintro e w1 ⟨v1, rfl, hR, hb1⟩; obtain ⟨al, cl, rfl⟩ := hR.form; have HI := Hid.intro hR.at; have hb1' := k_trans HKd.out hb1; obtain ⟨q0, q1, q2, q3, q4⟩ := fiveO ((hb1'.block _ l0).trans HX.out); have HB1 := Hid.intro (k_trans HK0.out hb1'); clear hR hb1 hb1')
    | (go_at_call 36; refine (implacrossAll _ (leastL t) t.gap _ HI.out).mono ?_; rintro e w2 ⟨rfl, rfl⟩))
  all_goals
    go_wp2
    go_ret
    exact ⟨rfl, HB1.out⟩
end Go.Proofs.YtfkkhfiiokhnaafGreat
namespace Go.Proofs.YtfkkhfiiokhnaafGreat
open Go.RowKit

set_option maxRecDepth 100000 in
set_option maxHeartbeats 1000000 in
theorem specGrdOf (ac ar : Option Addr) (cc cr : Nat) (t : T) (hD : Drawn t) (w : World) {z : Nat} (hc : ColsAt w z (.slice ac t.cols.length cc) t.cols) (hr : RowsAt w z (.slice ar t.rows.length cr) t.rows) :
    Calls Tryz.prog 105 #[.agg #[.slice ac t.cols.length cc, .int .i64 t.head, .int .i64 t.foot, .slice ar t.rows.length cr, .int .i64 t.gap]] w fun e w' => ∃ vg, e = .returned (.agg #[.int .i64 (gOf t).rows, .int .i64 (gOf t).cols, vg]) ∧ OwnG w' w.heap.size vg (gOf t).cells ∧ Below w.heap.size w w' := by
  obtain ⟨W0, hW0⟩ : ∃ W0, (w.alloc (.cells #[.slice ac t.cols.length cc, .int .i64 t.head, .int .i64 t.foot, .slice ar t.rows.length cr, .int .i64 t.gap] 26)).alloc (.cells #[.int .i64 0, .int .i64 0, .slice none 0 0] 46) = W0 := ⟨_, rfl⟩
  have K0 : Below w.heap.size w W0 := by rw [← hW0]; exact k_alloc (k_alloc (Below.refl _ _) _) _
  have hz0 : W0.heap.size = w.heap.size + 2 := by rw [← hW0]; simp
  have T0 : W0.heap[w.heap.size]? = some (.cells #[.slice ac t.cols.length cc, .int .i64 t.head, .int .i64 t.foot, .slice ar t.rows.length cr, .int .i64 t.gap] 26) := by rw [← hW0]; exact (Below.heap_alloc _ _ _ (by simp)).trans (newestB _ _)
  have X0 : W0.heap[w.heap.size + 1]? = some (.cells #[.int .i64 0, .int .i64 0, .slice none 0 0] 46) := by
    have := newestB (w.alloc (.cells #[.slice ac t.cols.length cc, .int .i64 t.head, .int .i64 t.foot, .slice ar t.rows.length cr, .int .i64 t.gap] 26)) (.cells #[.int .i64 0, .int .i64 0, .slice none 0 0] 46)
    rw [hW0] at this
    simpa using this
  have KO := Hid.intro (specTblOk ac ar cc cr t W0 (hc.kept K0) (hr.kept K0))
  have HR := Hid.intro hr
  obtain ⟨⟨t0, t1, t2, t3, t4⟩, _⟩ := fiveT T0
  clear hc hr
  cases htk : tblB t with
  | false =>
    rw [htk] at KO
    have hg : gOf t = ⟨0, 0, []⟩ := by unfold gOf; rw [if_neg (by rw [htk]; simp)]
    have HG := Hid.intro hg
    clear htk hg hD
    go_enter Tryz.func105, Tryz.ntmps105
    go_wp2_with fail
    refine KO.out.mono ?_
    rintro e w1 ⟨rfl, hb1⟩
    have X1 := blk_kept X0 hb1
    have K1 := k_trans K0 hb1
    obtain ⟨⟨x0, x1, x2⟩, y0, y1, y2⟩ := threeZ X1
    have HB := Hid.intro (((K1.setCell (p := ⟨w.heap.size + 1, 0, none⟩) (by show _ ≤ w.heap.size + 1; omega) (.int .i64 0)).setCell (p := ⟨w.heap.size + 1, 1, none⟩) (by show _ ≤ w.heap.size + 1; omega) (.int .i64 0)).setCell (p := ⟨w.heap.size + 1, 2, none⟩) (by show _ ≤ w.heap.size + 1; omega) (.slice none 0 0))
    clear hb1 K1 X1 KO hW0 t0 t1 t2 t3 t4
    go_wp2
    exact bodyPost_ret (v := .agg #[.int .i64 0, .int .i64 0, .slice none 0 0]) (by simp [results, Tryz.results105, go_sem, x0, x1, x2]) rfl ⟨.slice none 0 0, by rw [HG.out], by rw [HG.out]; exact ⟨rfl, .inl ⟨rfl, rfl⟩⟩, HB.out⟩
  | true =>
    rw [htk] at KO
    have hg : gOf t = ⟨t.rows.length, colsOf (max 1 (t.cols.length : Int)) (gridOf t), gridOf t⟩ := by unfold gOf; rw [if_pos htk]
    have HG := Hid.intro hg
    have HLow := Hid.intro (low_of htk hD)
    clear htk hg hD
    go_enter Tryz.func105, Tryz.ntmps105
    go_wp2_with fail
    refine KO.out.mono ?_
    rintro e w1 ⟨rfl, hb1⟩
    have X1 := blk_kept X0 hb1
    have T1 := blk_kept T0 hb1
    have K1 := k_trans K0 hb1
    obtain ⟨⟨s0, s1, s2, s3, s4⟩, _⟩ := fiveT T1
    clear KO hW0 t0 t1 t2 t3 t4
    go_wp2_with fail
    refine (l3Of_any ac ar cc cr t HLow.out w1 (HR.out.kept K1)).mono ?_
    rintro e w2 ⟨vg, rfl, hO2, hb2⟩
    have X2 := blk_kept X1 hb2
    have K2 := k_trans K1 hb2
    obtain ⟨va, vq, rfl, _⟩ := row_form hO2
    obtain ⟨⟨x0, x1, x2⟩, y0, y1, y2⟩ := threeZ X2
    have h1 := setB (p := 0) X2 (.int .i64 (t.rows.length : Int))
    have h2 := setB (p := 1) h1 (.int .i64 (colsOf (max 1 (t.cols.length : Int)) (gridOf t)))
    have o1 := row_set (p := 0) hO2 X2 (by decide) (.int .i64 (t.rows.length : Int))
    have o2 := row_set (p := 1) o1 h1 (by decide) (.int .i64 (colsOf (max 1 (t.cols.length : Int)) (gridOf t)))
    have o3 := row_set (p := 2) o2 h2 (by decide) (.slice va (gridOf t).length vq)
    have hz1 : w.heap.size ≤ w1.heap.size := K1.size
    have HO := Hid.intro (row_base o3 hz1)
    have HB := Hid.intro (((K2.setCell (p := ⟨w.heap.size + 1, 0, none⟩) (by show _ ≤ w.heap.size + 1; omega) (.int .i64 (t.rows.length : Int))).setCell (p := ⟨w.heap.size + 1, 1, none⟩) (by show _ ≤ w.heap.size + 1; omega) (.int .i64 (colsOf (max 1 (t.cols.length : Int)) (gridOf t)))).setCell (p := ⟨w.heap.size + 1, 2, none⟩) (by show _ ≤ w.heap.size + 1; omega) (.slice va (gridOf t).length vq))
    clear h1 h2 o1 o2 o3 hO2 hb2 X2 K2 s0 s1 s2 s3 s4 X1 T1 K1 hb1 X0 T0
    generalize hC : colsOf (max 1 (t.cols.length : Int)) (gridOf t) = C at HG HO HB ⊢
    clear hC
    go_wp2
    exact bodyPost_ret (v := .agg #[.int .i64 (t.rows.length : Int), .int .i64 C, .slice va (gridOf t).length vq]) (by simp [results, Tryz.results105, go_sem, x0, x1, x2]) rfl ⟨_, by rw [HG.out], by rw [HG.out]; exact HO.out, HB.out⟩
end Go.Proofs.YtfkkhfiiokhnaafGreat
