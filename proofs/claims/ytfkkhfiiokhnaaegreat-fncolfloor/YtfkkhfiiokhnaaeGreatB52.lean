/-
  PROVED HERE: columns, however wide a table may be, are small, no less wide than at least, and no cell is less wide than its longest word. Also: how wide a table is, columns and what stands between: facts on numbers. Also: the program's ColAllFixed at a drawn table; nothing that was in memory is turned.
-/
import Derived.Test.YtfkkhfiiokhnaaeGreatB46
import Derived.Test.YtfkkhfiiokhnaaeGreatB49
import Derived.Test.YtfkkhfiiokhnaaeGreatB47
import Derived.Test.YtfkkhfiiokhnaaeGreatB26
import Derived.Test.YtfkkhfiiokhnaaeGreatB22
import Derived.Test.YtfkkhfiiokhnaaeGreatB38
import Derived.Test.YtfkkhfiiokhnaaeGreatB37
namespace Go.Proofs.YtfkkhfiiokhnaaeGreat
open Go.RowKit

theorem wid_ge {t : T} (hD : Drawn t) (hok : tblB t = true) {width : Int} (hw : 0 ≤ width ∧ width ≤ 300) : LeL (leastL t) (widL t width) := by
  obtain ⟨h1, _, h3⟩ := wid_facts hD hok hw
  exact ⟨by rw [leastL_len, h1], fun i hi => (h3 i (by rw [leastL_len] at hi; exact hi)).1⟩
theorem wid_up {t : T} (hD : Drawn t) (hok : tblB t = true) {width : Int} (hw : 0 ≤ width ∧ width ≤ 300) : UpB (widL t width) 5000 := by
  obtain ⟨h1, h2, h3⟩ := wid_facts hD hok hw
  have hup := leastL_up hD
  have hll := leastL_len t
  obtain ⟨hC1, hC88, _, _, _, _⟩ := acr_least hD hok
  have hg : 0 ≤ t.gap ∧ t.gap ≤ 3 := by
    simp only [tblB, inB, Bool.and_eq_true, decide_eq_true_eq] at hok
    exact hok.2.2.1
  have hgg : 0 ≤ t.gap * ((colN t : Int) - 1) := Int.mul_nonneg hg.1 (by omega)
  have hpos : ∀ i, i < (widL t width).length → 0 ≤ (widL t width).getD i 0 := fun i hi => by
    have a := h3 i (by omega)
    have b := hup i (by omega)
    omega
  intro i hi
  refine ⟨hpos i hi, ?_⟩
  split at h2
  · have hs : (widL t width).sum = (leastL t).sum := by omega
    by_cases hlt : (leastL t).getD i 0 < (widL t width).getD i 0
    · have := sum_lt (a := leastL t) (b := widL t width) (by omega) (fun j hj => (h3 j (by omega)).1) i (by omega) hlt
      omega
    · have := hup i (by omega)
      omega
  · have := sum_ge hpos hi
    omega
theorem wid_cell {t : T} (hD : Drawn t) (hok : tblB t = true) {width : Int} (hw : 0 ≤ width ∧ width ≤ 300) {C : Nat} (hgc : (gOf t).cols = C) {k : Nat} (hk : k < (gOf t).cells.length) (hcel : Cel t C ((gOf t).cells.getD k dG)) : ¬ cellV (widL t width) t.gap ((gOf t).cells.getD k dG) < ((leastOf (wordsW (textOf t ((gOf t).cells.getD k dG))) : Nat) : Int) := by
  have h1 := (wid_facts hD hok hw).1
  have hCN := colN_of hgc
  have hup := wid_up hD hok hw
  rw [cellV_has hcel (fun i hi => by have := hup i hi; omega) (by omega)]
  have h2 := hasV_le hcel (wid_ge hD hok hw) (by rw [leastL_len]; exact hCN) t.gap
  have h3 := least_has hD hk
  exact Int.not_lt.2 (Int.le_trans h3 h2)
theorem widT_no {t : T} {x : Int} (h : ¬ 0 < (widT t x).length) : widT t x = [] := List.eq_nil_of_length_eq_zero (by omega)
/-- what is known where there are columns -/
theorem widT_yes {t : T} {x : Int} (h : 0 < (widT t x).length) : tblB t = true ∧ (0 ≤ x ∧ x ≤ 300) ∧ widT t x = widL t x := by
  unfold widT at h ⊢
  split at h
  · rename_i hm
    rw [if_pos hm]
    rw [Bool.and_eq_true] at hm
    exact ⟨hm.1, by simpa [inB] using hm.2, rfl⟩
  · simp at h
end Go.Proofs.YtfkkhfiiokhnaaeGreat
namespace Go.Proofs.YtfkkhfiiokhnaaeGreat
open Go.RowKit

/-- how wide a table is -/
def tabV (t : T) (width : Int) : Int := acrV (widT t width) t.gap
theorem tabV_no {t : T} {width : Int} (h : (tblB t && inB width 0 300) = false) : tabV t width = 0 := by unfold tabV widT; rw [h]; rfl
theorem acr_wid {t : T} (hD : Drawn t) (hok : tblB t = true) {width : Int} (hw : 0 ≤ width ∧ width ≤ 300) :
    widT t width = widL t width ∧ (widL t width).length = colN t ∧ tabV t width = (widL t width).sum + t.gap * ((colN t : Int) - 1) ∧ (widL t width).all wtB = true ∧ 0 ≤ (widL t width).sum ∧ (widL t width).sum ≤ 1000000 ∧ 0 ≤ t.gap * ((colN t : Int) - 1) ∧ t.gap * ((colN t : Int) - 1) ≤ 1000 ∧
    tabV t width = (if width < acrV (leastL t) t.gap ∨ allFix t = true then acrV (leastL t) t.gap else width) := by
  obtain ⟨hC1, hC2, ea, _, _, _⟩ := acr_least hD hok
  obtain ⟨f1, f2, _⟩ := wid_facts hD hok hw
  have hup := wid_up hD hok hw
  have hall : (widL t width).all wtB = true := all_wt (fun i hi => by have := hup i hi; omega)
  have hs := sum_bound hall
  have hsb := sum_upB (l := widL t width) (B := 5000) (fun x hx => hup.mem hx)
  have hg : 0 ≤ t.gap ∧ t.gap ≤ 3 := by
    simp only [tblB, inB, Bool.and_eq_true, decide_eq_true_eq] at hok
    exact hok.2.2.1
  have hg1 : 0 ≤ t.gap * ((colN t : Int) - 1) := Int.mul_nonneg hg.1 (by omega)
  have hg2 : t.gap * ((colN t : Int) - 1) ≤ 3 * 87 := Int.mul_le_mul hg.2 (by omega) (by omega) (by omega)
  have e0 : widT t width = widL t width := by unfold widT; rw [if_pos (by rw [hok, inB_true hw.1 hw.2]; rfl)]
  have e1 : tabV t width = (widL t width).sum + t.gap * ((colN t : Int) - 1) := by
    unfold tabV
    rw [e0, acrV_cons (by omega), f1, W_small (by omega)]
  refine ⟨e0, f1, e1, hall, hs.1, by omega, hg1, by omega, ?_⟩
  rw [e1, f2, ea]
end Go.Proofs.YtfkkhfiiokhnaaeGreat
namespace Go.Proofs.YtfkkhfiiokhnaaeGreat
open Go.RowKit

theorem fieldG1 (a b c : Value) (W : World) : (Instr.field 36 (.agg #[a, b, c]) 1).run Tryz.prog W = .ok b W := by
  kernel_rfl
theorem allFix_no {t : T} {k : Nat} (hk : k < colN t) (h : ¬ (sd t.cols k).1 = 1) : allFix t = false := by
  unfold allFix
  rw [List.all_eq_false]
  exact ⟨k, List.mem_range.2 hk, by simp [kindP, h]⟩
theorem allFix_yes {t : T} (h : ∀ i, i < colN t → (sd t.cols (i : Nat)).1 = 1) : allFix t = true := by
  unfold allFix
  rw [List.all_eq_true]
  intro k hk
  simp [kindP, h k (List.mem_range.1 hk)]
set_option maxRecDepth 100000 in
set_option maxHeartbeats 2000000 in
theorem implColAllFixed (ac ar : Option Addr) (cc cr : Nat) (t : T) (hD : Drawn t) (w : World) {z : Nat} (hc : ColsAt w z (.slice ac t.cols.length cc) t.cols) (hr : RowsAt w z (.slice ar t.rows.length cr) t.rows) :
    Calls Tryz.prog 21 #[.agg #[.slice ac t.cols.length cc, .int .i64 t.head, .int .i64 t.foot, .slice ar t.rows.length cr, .int .i64 t.gap]] w fun e w' => e = .returned (.bool (tblB t && allFix t)) ∧ Below w.heap.size w w' := by
  have hf0 := field0
  have hf1 := fieldG1
  obtain ⟨_, C, hgc, hC88, _⟩ := cel_of hD
  have HCN := Hid.intro (colN_of hgc)
  have HM : Hid (∀ W, Below w.heap.size w W → ColsAt W z (.slice ac t.cols.length cc) t.cols ∧ RowsAt W z (.slice ar t.rows.length cr) t.rows) := fun W k => ⟨hc.kept k, hr.kept k⟩
  have K0 : Hid (Below w.heap.size w (w.alloc (.cells #[.slice ac t.cols.length cc, .int .i64 t.head, .int .i64 t.foot, .slice ar t.rows.length cr, .int .i64 t.gap] 26))) := k_alloc (Below.refl _ _) _
  have X0 : Hid ((w.alloc (.cells #[.slice ac t.cols.length cc, .int .i64 t.head, .int .i64 t.foot, .slice ar t.rows.length cr, .int .i64 t.gap] 26)).heap[w.heap.size]? = some (.cells #[.slice ac t.cols.length cc, .int .i64 t.head, .int .i64 t.foot, .slice ar t.rows.length cr, .int .i64 t.gap] 26)) := newestB _ _
  have KO := Hid.intro (implTblOk ac ar cc cr t _ (HM.out _ K0.out).1 (HM.out _ K0.out).2)
  have HDr := Hid.intro hD
  have HS := Hid.intro (fun (k : Nat) (W : World) (h : Below w.heap.size w W) => implsaidOf (.slice ac t.cols.length cc) t.cols (k : Int) W (HM.out W h).1)
  clear hc hr hD
  cases htk : tblB t with
  | false =>
    rw [htk] at KO
    clear htk
    go_enter Tryz.func21, Tryz.ntmps21
    go_wp2_with fail
    refine KO.out.mono ?_
    rintro e w1 ⟨rfl, hb1⟩
    have K1 := Hid.intro (k_trans K0.out hb1)
    clear hb1 KO
    go_wp2
    go_ret
    exact ⟨rfl, K1.out⟩
  | true =>
    rw [htk] at KO
    clear htk
    have hN : (gOf t).cols = (C : Int) := hgc
    have HgC := Hid.intro hgc
    clear hN hgc
    go_enter Tryz.func21, Tryz.ntmps21
    go_wp2_with fail
    refine KO.out.mono ?_
    rintro e w1 ⟨rfl, hb1⟩
    have K1 := Hid.intro (k_trans K0.out hb1)
    have X1 := Hid.intro ((hb1.block w.heap.size (by simp)).trans X0.out)
    obtain ⟨b0, b1, b2, b3, b4⟩ := fiveO X1.out
    have l1 := (Array.getElem?_eq_some_iff.1 X1.out).1
    clear hb1 KO X0 K0
    go_wp2_with fail
    refine (implGrdOf ac ar cc cr t HDr.out _ (HM.out _ K1.out).1 (HM.out _ K1.out).2).mono ?_
    rw [HgC.out]
    rintro e w2 ⟨vg, rfl, hO2, hb2⟩
    obtain ⟨ag, cg, rfl⟩ := own_slice hO2
    have K2 := Hid.intro (k_trans K1.out hb2)
    have X2 := Hid.intro ((hb2.block w.heap.size l1).trans X1.out)
    clear hb2 hO2 b0 b1 b2 b3 b4 l1 X1 K1
    go_wp2_with fail
    go_loopw [10] (fun i W => ∃ k : Nat, k ≤ C ∧ i = .int .i64 k ∧ Hid (∀ j, j < k → (sd t.cols (j : Nat)).1 = 1) ∧ Hid (Below w.heap.size w W) ∧ Hid (W.heap[w.heap.size]? = some (.cells #[.slice ac t.cols.length cc, .int .i64 t.head, .int .i64 t.foot, .slice ar t.rows.length cr, .int .i64 t.gap] 26))) (fun i _ => C - (intOf i).toNat)
    case atStart => exact ⟨0, Nat.zero_le _, rfl, fun j hj => absurd hj (Nat.not_lt_zero _), K2, X2⟩
    case round =>
      obtain ⟨k, hk, rfl, HA, HB, HX⟩ := hrel
      by_cases hlt : k < C
      · have HN : Hid (¬ (sd t.cols (k : Nat)).1 = 1 → allFix t = false) := fun h => allFix_no (by rw [HCN.out]; exact hlt) h
        have HY : Hid ((sd t.cols (k : Nat)).1 = 1 → ∀ j, j < k + 1 → (sd t.cols (j : Nat)).1 = 1) := fun h j hj => by
          rcases Nat.lt_or_eq_of_le (Nat.lt_succ_iff.1 hj) with h1 | rfl
          · exact HA.out j h1
          · exact h
        have KS := Hid.intro (HS.out k wr HB.out)
        generalize sd t.cols (k : Int) = p at HN HY KS
        obtain ⟨b0, b1, b2, b3, b4⟩ := fiveO HX.out
        have l1 := (Array.getElem?_eq_some_iff.1 HX.out).1
        go_wp2_with fail
        refine KS.out.mono ?_
        rintro e w3 ⟨rfl, hb3⟩
        have K3 := Hid.intro (k_trans HB.out hb3)
        have X3 := Hid.intro ((hb3.block w.heap.size l1).trans HX.out)
        clear hb3 b0 b1 b2 b3 b4 l1 KS
        by_cases h1 : p.1 = 1
        · have hne : (p.1 != 1) = false := by rw [h1]; rfl
          have HZ := Hid.intro (HY.out h1)
          clear h1 HY HN HA
          go_wp2
          go_roundw
          case rel => exact ⟨k + 1, by omega, by go_num, HZ, K3, X3⟩
          case measure => simp [intOf]; omega
        · have hne : (p.1 != 1) = true := bne_iff_ne.2 h1
          have HZ := Hid.intro (HN.out h1)
          clear h1 HY HN HA
          go_wp2
          go_ret
          exact ⟨by rw [HZ.out]; rfl, K3.out⟩
      · obtain rfl : k = C := by omega
        have HZ : Hid (allFix t = true) := allFix_yes (fun i hi => HA.out i (by rw [HCN.out] at hi; exact hi))
        clear HA
        go_wp2
        go_ret
        exact ⟨by rw [HZ.out]; rfl, HB.out⟩
end Go.Proofs.YtfkkhfiiokhnaaeGreat
