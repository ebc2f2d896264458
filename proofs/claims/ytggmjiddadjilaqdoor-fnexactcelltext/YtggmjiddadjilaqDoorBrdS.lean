/-
  PROVED HERE: what the model's BrdOk answers at every border.
-/
import Derived.Test.YtggmjiddadjilaqDoorBrdB
namespace Go.Proofs.YtggmjiddadjilaqDoor
open Go.RowKit

set_option maxRecDepth 100000 in
set_option maxHeartbeats 400000 in
theorem specBrdOk (a b : Int) (w : World) :
    Calls Tryd.prog 27 #[.agg #[.int .i64 a, .int .i64 b]] w fun e w' => e = .returned (.bool (brdOkB a b)) ∧ w' = w.alloc (.cells #[.int .i64 a, .int .i64 b] 28) := by
  by_cases h0 : a = 0
  · subst h0
    go_enter Tryd.func27, Tryd.ntmps27
    go_wp2
    go_ret
    exact ⟨retB (brd_zero b).symm, rfl⟩
  by_cases h4 : a = 4
  · subst h4
    go_enter Tryd.func27, Tryd.ntmps27
    go_wp2
    go_ret
    exact ⟨retB (brd_four b).symm, rfl⟩
  have e0 : (a == 0) = false := beq_eq_false_iff_ne.2 h0
  have e4 : (a == 4) = false := beq_eq_false_iff_ne.2 h4
  by_cases h : 1 ≤ a ∧ a ≤ 3
  · have hi : inB a 1 3 = true := inB_true h.1 h.2
    have HB : Hid (brdOkB a b = inB b 1 3) := brd_seen b h.1 h.2
    clear h h0 h4
    go_enter Tryd.func27, Tryd.ntmps27
    go_wp2_with (go_at_call 26; refine (l1In_any _ _ _ _).mono ?_; rintro e w' ⟨rfl, rfl⟩)
    go_ret
    exact ⟨retB HB.out.symm, rfl⟩
  · have hi : inB a 1 3 = false := inB_false h
    have HB : Hid (brdOkB a b = false) := brd_other b h0 h4 h
    clear h h0 h4
    go_enter Tryd.func27, Tryd.ntmps27
    go_wp2_with (go_at_call 26; refine (l1In_any _ _ _ _).mono ?_; rintro e w' ⟨rfl, rfl⟩)
    go_ret
    exact ⟨retB HB.out.symm, rfl⟩
end Go.Proofs.YtggmjiddadjilaqDoor
