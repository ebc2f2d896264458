/-
  PROVED HERE: what the model's l2Col answers at every column.
-/
import Derived.Test.YtfkkhfiiokhnaayTblColB
namespace Go.Proofs.Ytfkkhfiiokhnaay
open Go.RowKit

set_option maxRecDepth 100000 in
set_option maxHeartbeats 1000000 in
theorem specL2Col (k n : Int) (w : World) :
    Calls Try.prog 41 #[.agg #[.int .i64 k, .int .i64 n]] w fun e w' => e = .returned (.bool (colB k n)) ∧ Below w.heap.size w w' := by
  by_cases h0 : k = 0
  · subst h0
    have HC := Hid.intro (colB_0' n)
    go_enter Try.func41, Try.ntmps41
    go_wp2
    go_ret
    exact ⟨retB HC.out.symm, by repeat (first | refine k_alloc ?_ _ | exact Below.refl _ _)⟩
  by_cases h1 : k = 1
  · subst h1
    have HC := Hid.intro (colB_1 n)
    go_enter Try.func41, Try.ntmps41
    go_wp2_with (go_at_call 29; refine (l1In_any _ _ _ _).mono ?_; rintro e w' ⟨rfl, rfl⟩)
    go_ret
    exact ⟨retB HC.out.symm, by repeat (first | refine k_alloc ?_ _ | exact Below.refl _ _)⟩
  by_cases h2 : k = 2
  · subst h2
    have HC := Hid.intro (colB_2 n)
    go_enter Try.func41, Try.ntmps41
    go_wp2_with (go_at_call 29; refine (l1In_any _ _ _ _).mono ?_; rintro e w' ⟨rfl, rfl⟩)
    go_ret
    exact ⟨retB HC.out.symm, by repeat (first | refine k_alloc ?_ _ | exact Below.refl _ _)⟩
  have e0 : (k == 0) = false := beq_eq_false_iff_ne.2 h0
  have e1 : (k == 1) = false := beq_eq_false_iff_ne.2 h1
  have e2 : (k == 2) = false := beq_eq_false_iff_ne.2 h2
  have HC := Hid.intro (colB_no n h0 h1 h2)
  clear h0 h1 h2
  go_enter Try.func41, Try.ntmps41
  go_wp2
  go_ret
  exact ⟨retB HC.out.symm, by repeat (first | refine k_alloc ?_ _ | exact Below.refl _ _)⟩
end Go.Proofs.Ytfkkhfiiokhnaay
