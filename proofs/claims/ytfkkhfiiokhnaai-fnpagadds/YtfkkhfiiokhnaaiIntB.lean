/-
  PROVED HERE: small facts on lists of numbers and their sums.
-/
import Derived.Test.YtfkkhfiiokhnaaiInBb
import Derived.Test.YtfkkhfiiokhnaaiInts
namespace Go.Proofs.Ytfkkhfiiokhnaai
open Go.RowKit

/-- numbers that may be weights -/
def wtB (n : Int) : Bool := decide (0 ≤ n ∧ n ≤ 100000)
def shrOkB (t : Int) (l : List Int) : Bool := wtB t && decide (l.length ≤ 100) && l.all wtB
theorem wtB_in (n : Int) : inB n 0 100000 = wtB n := rfl
theorem all_next {l : List Int} {k : Nat} (h : k < l.length) (h1 : (l.take k).all wtB = true) (h2 : wtB (l.getD k 0) = true) : (l.take (k + 1)).all wtB = true := by
  rw [List.take_add_one, List.all_append, h1]
  simp [List.getD, h] at h2 ⊢
  exact h2
theorem not_all {l : List Int} {k : Nat} (h : k < l.length) (h2 : wtB (l.getD k 0) = false) : l.all wtB = false := by
  rw [List.all_eq_false]
  refine ⟨l[k], List.getElem_mem h, ?_⟩
  simp [List.getD, h] at h2
  simp [h2]
theorem wt_get {l : List Int} (h : l.all wtB = true) {i : Nat} (hi : i < l.length) : 0 ≤ l.getD i 0 ∧ l.getD i 0 ≤ 100000 := by
  have := List.all_eq_true.1 h (l[i]) (List.getElem_mem hi)
  simp [wtB] at this
  simpa [List.getD, hi] using this
def sumTo (l : List Int) (k : Nat) : Int := (l.take k).sum
theorem sumTo_succ {l : List Int} {k : Nat} (h : k < l.length) : sumTo l (k + 1) = sumTo l k + l.getD k 0 := by
  rw [sumTo, List.take_add_one, List.sum_append, sumTo]
  simp [List.getD, h]
theorem sumTo_all (l : List Int) : sumTo l l.length = l.sum := by rw [sumTo, List.take_length]
theorem sumTo_bound {l : List Int} (h : l.all wtB = true) : ∀ k, k ≤ l.length → 0 ≤ sumTo l k ∧ sumTo l k ≤ k * 100000
  | 0, _ => by simp [sumTo]
  | k + 1, hk => by
    have h1 := sumTo_bound h k (by omega)
    have h2 := wt_get h (i := k) (by omega)
    rw [sumTo_succ (by omega)]
    omega
theorem sum_bound {l : List Int} (h : l.all wtB = true) : 0 ≤ l.sum ∧ l.sum ≤ l.length * 100000 := by
  have := sumTo_bound h l.length (Nat.le_refl _)
  rwa [sumTo_all] at this
theorem shrOk_parts {t : Int} {l : List Int} (h : shrOkB t l = true) : (0 ≤ t ∧ t ≤ 100000) ∧ l.length ≤ 100 ∧ l.all wtB = true := by
  simp only [shrOkB, Bool.and_eq_true, decide_eq_true_eq] at h
  obtain ⟨⟨h1, h2⟩, h3⟩ := h
  simp only [wtB, decide_eq_true_eq] at h1
  exact ⟨h1, h2, h3⟩
end Go.Proofs.Ytfkkhfiiokhnaai
