/-
  PROVED HERE: which of two borders beats the other one, as a Bool; it is an order.
-/
import Derived.Test.YtfkkhfiiokhnaaxInBb
namespace Go.Proofs.Ytfkkhfiiokhnaax
open Go.RowKit

/-- whether a border (its style, its width) beats another one -/
def beatsB (a b c d : Int) : Bool := if a = 4 ∨ c = 4 then decide (a = 4 ∧ c ≠ 4) else if b ≠ d then decide (d < b) else decide (c < a)
theorem beats_hid1 {c : Int} (b d : Int) (hc : c ≠ 4) : beatsB 4 b c d = true := by simp [beatsB, hc]
theorem beats_hid2 {a : Int} (b d : Int) : beatsB a b 4 d = false := by simp [beatsB]
theorem beats_wide {a b c d : Int} (ha : a ≠ 4) (hc : c ≠ 4) (h : b ≠ d) : beatsB a b c d = decide (d < b) := by simp [beatsB, ha, hc, h]
theorem beats_style {a b c : Int} (ha : a ≠ 4) (hc : c ≠ 4) : beatsB a b c b = decide (c < a) := by simp [beatsB, ha, hc]
theorem beats_iff (a b c d : Int) : beatsB a b c d = true ↔ c ≠ 4 ∧ (a = 4 ∨ d < b ∨ (b = d ∧ c < a)) := by
  unfold beatsB
  by_cases ha : a = 4
  · by_cases hc : c = 4 <;> simp [ha, hc]
  · by_cases hc : c = 4
    · simp [ha, hc]
    · by_cases h : b = d
      · simp [ha, hc, h]
      · simp [ha, hc, h]
theorem beats_self (a b : Int) : beatsB a b a b = false := by
  rw [Bool.eq_false_iff]; intro h; rw [beats_iff] at h; omega
theorem beats_not (a b c d : Int) (h : beatsB a b c d = true) : beatsB c d a b = false := by
  rw [Bool.eq_false_iff]; intro k; rw [beats_iff] at h k; omega
theorem beats_trans {a b c d e f : Int} (h : beatsB a b c d = true) (k : beatsB c d e f = true) : beatsB a b e f = true := by
  rw [beats_iff] at h k ⊢; omega
/-- what does not beat goes on so -/
theorem beats_neg {a b c d e f : Int} (h : beatsB a b c d = false) (k : beatsB c d e f = false) : beatsB a b e f = false := by
  rw [Bool.eq_false_iff] at h k ⊢
  intro hh
  rw [ne_eq, beats_iff] at h k
  rw [beats_iff] at hh
  omega
end Go.Proofs.Ytfkkhfiiokhnaax
