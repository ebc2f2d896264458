/-
  PROVED HERE: what the model's QryArea answers at every argument; nothing that was in memory is turned.
-/
import Derived.Test.YtcbibdhlkdcmiaiQrB
namespace Go.Proofs.Ytcbibdhlkdcmiai
open Go.RowKit

theorem specQryArea (X Y W H : Int) (w : World) :
    Calls Try.prog 12 #[.agg #[.int .i64 X, .int .i64 Y, .int .i64 W, .int .i64 H]] w fun e w' => e = .returned (.int .i64 (wrap64 (W * H))) ∧ Below w.heap.size w w' := by
  go_enter Try.func12, Try.ntmps12
  go_wp2
  go_ret
  exact ⟨rfl, k_alloc (Below.refl _ _) _⟩
end Go.Proofs.Ytcbibdhlkdcmiai
