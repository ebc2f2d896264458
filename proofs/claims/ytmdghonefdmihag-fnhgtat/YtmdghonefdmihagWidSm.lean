/-
  PROVED HERE: where columns begin and end, and how wide a cell is, at small numbers.
-/
import Derived.Test.YtmdghonefdmihagWidCI
namespace Go.Proofs.Ytmdghonefdmihag
open Go.RowKit

theorem sumS {l : List Int} (h : ∀ x ∈ l, 0 ≤ x ∧ x ≤ 20) : ∀ k, k ≤ l.length → 0 ≤ sumTo l k ∧ sumTo l k ≤ 20 * (k : Int)
  | 0, _ => by simp [sumTo]
  | k + 1, hk => by
    have h1 := sumS h k (by omega)
    have h2 := h l[k] (List.getElem_mem (by omega))
    have e : l.getD k 0 = l[k] := by simp [List.getD, show k < l.length by omega]
    rw [sumTo_succ (by omega), e]
    omega
theorem gapS {gap : Int} (h : -1 ≤ gap ∧ gap ≤ 4) {k : Nat} (hk : k ≤ 6) : -6 ≤ gap * (k : Int) ∧ gap * (k : Int) ≤ 24 := by
  rcases (by omega : gap = -1 ∨ gap = 0 ∨ gap = 1 ∨ gap = 2 ∨ gap = 3 ∨ gap = 4) with rfl | rfl | rfl | rfl | rfl | rfl <;> omega
theorem atS {l : List Int} (h : ∀ x ∈ l, 0 ≤ x ∧ x ≤ 20) (hl : l.length ≤ 6) {gap : Int} (hg : -1 ≤ gap ∧ gap ≤ 4) {k : Nat} (hk : k ≤ l.length) : atV l gap k = sumTo l k + gap * (k : Int) ∧ -6 ≤ atV l gap k ∧ atV l gap k ≤ 200 := by
  have h1 := sumS h k hk
  have h2 := gapS hg (show k ≤ 6 by omega)
  have e : atV l gap k = sumTo l k + gap * (k : Int) := by
    rw [atV, aheadN_nat l hk, W_small (by omega)]
  rw [e]
  omega
theorem getS {l : List Int} (h : ∀ x ∈ l, 0 ≤ x ∧ x ≤ 20) {k : Nat} (hk : k < l.length) : 0 ≤ l.getD k 0 ∧ l.getD k 0 ≤ 20 := by
  have e : l.getD k 0 = l[k] := by simp [List.getD, hk]
  rw [e]; exact h _ (List.getElem_mem hk)
theorem endS {l : List Int} (h : ∀ x ∈ l, 0 ≤ x ∧ x ≤ 20) (hl : l.length ≤ 6) {gap : Int} (hg : -1 ≤ gap ∧ gap ≤ 4) {k : Nat} (hk : k < l.length) : endV l gap k = sumTo l (k + 1) + gap * (k : Int) ∧ -6 ≤ endV l gap k ∧ endV l gap k ≤ 300 := by
  have h1 := atS h hl hg (show k ≤ l.length by omega)
  have h2 := getS h hk
  have e : endV l gap k = atV l gap k + l.getD k 0 := by
    rw [endV, if_pos (inB_true (by omega) (by omega)), Int.toNat_natCast, W_small (by omega)]
  rw [e, sumTo_succ hk]
  omega
theorem ownL_none {l : List Int} {p : Nat → Bool} : ∀ k, (∀ i, i < k → p i = false) → ownL l p k = []
  | 0, _ => rfl
  | k + 1, h => by rw [ownL, if_neg (by rw [h k (by omega)]; simp)]; exact ownL_none k (fun i hi => h i (by omega))
theorem cellV_none {l : List Int} {gap : Int} {x : GC} (h : x.cols ≤ 0) : cellV l gap x = 0 := by
  unfold cellV
  rw [ownL_none _ (fun i _ => by simp [inCell, amongB]; omega)]
  rfl
theorem own_span {l : List Int} {x : GC} {c m : Nat} (hc : x.col = c) (hm : x.cols = m) : ∀ k, k ≤ l.length → (ownL l (inCell x) k).length = min m (k - c) ∧ (ownL l (inCell x) k).sum = sumTo l (min k (c + m)) - sumTo l (min k c)
  | 0, _ => by simp [ownL, sumTo]
  | k + 1, hk => by
    obtain ⟨h1, h2⟩ := own_span (l := l) hc hm k (by omega)
    by_cases hin : c ≤ k ∧ k < c + m
    · have e : inCell x k = true := by simp [inCell, amongB, hc, hm]; omega
      rw [ownL_yes e, List.length_append, List.sum_append, h1, h2]
      have e1 : min (k + 1) (c + m) = k + 1 := by omega
      have e2 : min k (c + m) = k := by omega
      have e3 : min (k + 1) c = c := by omega
      have e4 : min k c = c := by omega
      rw [e1, e2, e3, e4, sumTo_succ (by omega)]
      simp
      omega
    · have e : inCell x k = false := by simp [inCell, amongB, hc, hm]; omega
      rw [ownL_no e, h1, h2]
      have e1 : min (k + 1) (c + m) = min k (c + m) ∨ min (k + 1) c = k + 1 := by omega
      by_cases hkc : k < c
      · have a1 : min (k + 1) (c + m) = k + 1 := by omega
        have a2 : min k (c + m) = k := by omega
        have a3 : min (k + 1) c = k + 1 := by omega
        have a4 : min k c = k := by omega
        rw [a1, a2, a3, a4]
        omega
      · have a1 : min (k + 1) (c + m) = min k (c + m) := by omega
        have a3 : min (k + 1) c = min k c := by omega
        rw [a1, a3]
        omega
theorem cellV_small {l : List Int} (h : ∀ x ∈ l, 0 ≤ x ∧ x ≤ 20) (hl : l.length ≤ 6) {gap : Int} (hg : -1 ≤ gap ∧ gap ≤ 4) {x : GC} {c m : Nat} (hc : x.col = c) (hm : x.cols = m) (h1 : 1 ≤ m) (h2 : c + m ≤ l.length) :
    cellV l gap x = endV l gap ((c : Int) + (m : Int) - 1) - atV l gap c ∧ (-9 ≤ atV l gap c ∧ atV l gap c ≤ 300) ∧ -9 ≤ endV l gap ((c : Int) + (m : Int) - 1) ∧ endV l gap ((c : Int) + (m : Int) - 1) ≤ 300 := by
  have ek : (c : Int) + (m : Int) - 1 = ((c + m - 1 : Nat) : Int) := by omega
  rw [ek]
  have hE := endS h hl hg (show c + m - 1 < l.length by omega)
  have hA := atS h hl hg (show c ≤ l.length by omega)
  obtain ⟨o1, o2⟩ := own_span (l := l) hc hm l.length (Nat.le_refl _)
  rw [show min m (l.length - c) = m by omega] at o1
  rw [show min l.length (c + m) = c + m by omega, show min l.length c = c by omega] at o2
  have hs1 := sumS h (c + m) h2
  have hs2 := sumS h c (by omega)
  have hgm := gapS hg (show m - 1 ≤ 6 by omega)
  rw [show ((m - 1 : Nat) : Int) = (m : Int) - 1 by omega] at hgm
  have e : cellV l gap x = sumTo l (c + m) - sumTo l c + gap * ((m : Int) - 1) := by
    unfold cellV
    rw [acrV_cons (by rw [o1]; omega), o1, o2, W_small (by omega)]
  refine ⟨?_, by omega, by omega⟩
  rw [e, hE.1, hA.1, show c + m - 1 + 1 = c + m by omega, show ((c + m - 1 : Nat) : Int) = (c : Int) + ((m : Int) - 1) by omega, Int.mul_add]
  omega
end Go.Proofs.Ytmdghonefdmihag
