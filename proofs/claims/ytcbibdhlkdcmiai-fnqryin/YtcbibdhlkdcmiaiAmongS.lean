/-
  PROVED HERE: what the model's l1Among answers at every argument; nothing in memory is turned.
-/
import Derived.Test.YtcbibdhlkdcmiaiGrdFn
namespace Go.Proofs.Ytcbibdhlkdcmiai
open Go.RowKit

theorem l1Among_any (x f m : Int) (hx : I64 x) (hf : I64 f) (hm : I64 m) (w : World) :
    Calls Try.prog 20 #[.int .i64 x, .int .i64 f, .int .i64 m] w fun e w' => e = .returned (.bool (amongB x f m)) ∧ w' = w := by
  unfold I64 at hx hf hm
  by_cases h1 : x < f
  · have e : amongB x f m = false := by simp [amongB]; omega
    rw [e]
    go_enter Try.func20, Try.ntmps20
    go_wp2
    go_ret
    exact ⟨rfl, rfl⟩
  · by_cases h2 : m ≤ 0
    · have e : amongB x f m = false := by simp [amongB]; omega
      rw [e]
      go_enter Try.func20, Try.ntmps20
      go_wp2
      go_ret
      exact ⟨rfl, rfl⟩
    · by_cases h3 : f < 0
      · by_cases h4 : 0 ≤ x
        · have e : amongB x f m = decide (x < m + f) := by
            have : decide (x - f < m) = decide (x < m + f) := by apply decide_eq_decide.2; omega
            simp only [amongB, this]; simp; omega
          rw [e]
          go_enter Try.func20, Try.ntmps20
          go_wp2
          go_ret
          exact ⟨rfl, rfl⟩
        · have e : amongB x f m = decide (x - f < m) := by simp [amongB]; omega
          rw [e]
          go_enter Try.func20, Try.ntmps20
          go_wp2
          go_ret
          exact ⟨rfl, rfl⟩
      · have e : amongB x f m = decide (x - f < m) := by simp [amongB]; omega
        rw [e]
        go_enter Try.func20, Try.ntmps20
        go_wp2
        go_ret
        exact ⟨rfl, rfl⟩
end Go.Proofs.Ytcbibdhlkdcmiai
