/-
  PROVED HERE: the laws' own pwOk says true; nothing in memory is turned.
-/
import Derived.Test.YtcbibdhlkdcmiaiTxtOkI
namespace Go.Proofs.Ytcbibdhlkdcmiai
open Go.RowKit

theorem abcOk : txtOkB ⟨#[97, 98, 32, 99]⟩ = true := by decide +kernel
theorem pwOk_any (w : World) : Calls Try.prog 13 #[] w fun e w' => e = .returned (.bool true) ∧ w' = w := by
  go_enter Try.func13, Try.ntmps13
  go_wp2_with fail
  refine (implTxtOk _ _ (by unfold maxLen; decide)).mono ?_
  rw [abcOk]
  rintro e w1 ⟨rfl, rfl⟩
  go_wp2
  go_ret
  exact ⟨rfl, rfl⟩
end Go.Proofs.Ytcbibdhlkdcmiai
