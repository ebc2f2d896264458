/-
  PROVED HERE: what the model's QryIn answers at every argument; nothing that was in memory is turned.
-/
import Derived.Test.YtcbibdhlkdcmiaiQrB
import Derived.Test.YtcbibdhlkdcmiaiAmongS
namespace Go.Proofs.Ytcbibdhlkdcmiai
open Go.RowKit

set_option maxRecDepth 100000 in
theorem specQryIn (X Y W H x y : Int) (hX : I64 X) (hY : I64 Y) (hW : I64 W) (hH : I64 H) (hx : I64 x) (hy : I64 y) (w : World) :
    Calls Try.prog 10 #[.agg #[.int .i64 X, .int .i64 Y, .int .i64 W, .int .i64 H], .int .i64 x, .int .i64 y] w fun e w' => e = .returned (.bool (qinB X Y W H x y)) ∧ Below w.heap.size w w' := by
  unfold qinB
  have H1 := Hid.intro (l1Among_any x X W hx hX hW)
  have H2 := Hid.intro (l1Among_any y Y H hy hY hH)
  generalize amongB x X W = p at H1 ⊢
  generalize amongB y Y H = q at H2 ⊢
  cases p with
  | false =>
    go_enter Try.func10, Try.ntmps10
    go_wp2_with fail
    refine (H1.out _).mono ?_
    rintro e w1 ⟨rfl, rfl⟩
    go_wp2
    go_ret
    exact ⟨rfl, k_alloc (Below.refl _ _) _⟩
  | true =>
    go_enter Try.func10, Try.ntmps10
    go_wp2_with fail
    refine (H1.out _).mono ?_
    rintro e w1 ⟨rfl, rfl⟩
    go_wp2_with fail
    refine (H2.out _).mono ?_
    rintro e w1 ⟨rfl, rfl⟩
    go_wp2
    go_ret
    exact ⟨by cases q <;> rfl, k_alloc (Below.refl _ _) _⟩
end Go.Proofs.Ytcbibdhlkdcmiai
