/-
  PROVED HERE: what the program's reaches answers at every argument; nothing in memory is turned.
-/
import Derived.Test.YtcbibdhlkdcmiaiGrdFn
namespace Go.Proofs.Ytcbibdhlkdcmiai
open Go.RowKit

theorem reaches_any (x f m : Int) (hx : I64 x) (hf : I64 f) (hm : I64 m) (w : World) :
    Calls Try.prog 19 #[.int .i64 f, .int .i64 m, .int .i64 x] w fun e w' => e = .returned (.bool (amongB x f m)) ∧ w' = w := by
  unfold I64 at hx hf hm
  by_cases h1 : f ≤ x
  · by_cases h2 : 0 < m
    · have e : amongB x f m = decide (x - f < m) := by simp [amongB]; omega
      rw [e]
      go_enter Try.func19, Try.ntmps19
      go_wp2
      go_ret
      exact ⟨ret_boolG (by rw [wrap_sub hx hf h1]), rfl⟩
    · have e : amongB x f m = false := by simp [amongB]; omega
      rw [e]
      go_enter Try.func19, Try.ntmps19
      go_wp2
      go_ret
      exact ⟨rfl, rfl⟩
  · have e : amongB x f m = false := by simp [amongB]; omega
    rw [e]
    go_enter Try.func19, Try.ntmps19
    go_wp2
    go_ret
    exact ⟨rfl, rfl⟩
end Go.Proofs.Ytcbibdhlkdcmiai
