/-
  PROVED HERE: what the program's BrdOk answers at every border.
-/
import Derived.Test.YtggmjiddadjilaqDoorBrdB
namespace Go.Proofs.YtggmjiddadjilaqDoor
open Go.RowKit

set_option maxRecDepth 100000 in
set_option maxHeartbeats 400000 in
theorem implBrdOk (a b : Int) (w : World) :
    Calls Tryd.prog 32 #[.agg #[.int .i64 a, .int .i64 b]] w fun e w' => e = .returned (.bool (brdOkB a b)) ∧ w' = w.alloc (.cells #[.int .i64 a, .int .i64 b] 28) := by
  by_cases h0 : a = 0
  · subst h0
    go_enter Tryd.func32, Tryd.ntmps32
    go_wp2
    go_ret
    exact ⟨retB (brd_zero b).symm, rfl⟩
  by_cases h4 : a = 4
  · subst h4
    go_enter Tryd.func32, Tryd.ntmps32
    go_wp2
    go_ret
    exact ⟨retB (brd_four b).symm, rfl⟩
  by_cases h1 : a = 1
  · subst h1
    go_enter Tryd.func32, Tryd.ntmps32
    go_wp2_with (go_at_call 31; refine (within_any _ _ _ _).mono ?_; rintro e w' ⟨rfl, rfl⟩)
    go_ret
    exact ⟨retB (brd_seen b (by omega) (by omega)).symm, rfl⟩
  by_cases h2 : a = 2
  · subst h2
    go_enter Tryd.func32, Tryd.ntmps32
    go_wp2_with (go_at_call 31; refine (within_any _ _ _ _).mono ?_; rintro e w' ⟨rfl, rfl⟩)
    go_ret
    exact ⟨retB (brd_seen b (by omega) (by omega)).symm, rfl⟩
  by_cases h3 : a = 3
  · subst h3
    go_enter Tryd.func32, Tryd.ntmps32
    go_wp2_with (go_at_call 31; refine (within_any _ _ _ _).mono ?_; rintro e w' ⟨rfl, rfl⟩)
    go_ret
    exact ⟨retB (brd_seen b (by omega) (by omega)).symm, rfl⟩
  have e0 : (a == 0) = false := beq_eq_false_iff_ne.2 h0
  have e1 : (a == 1) = false := beq_eq_false_iff_ne.2 h1
  have e2 : (a == 2) = false := beq_eq_false_iff_ne.2 h2
  have e3 : (a == 3) = false := beq_eq_false_iff_ne.2 h3
  have e4 : (a == 4) = false := beq_eq_false_iff_ne.2 h4
  have HB : Hid (brdOkB a b = false) := brd_other b h0 h4 (by omega)
  clear h0 h1 h2 h3 h4
  go_enter Tryd.func32, Tryd.ntmps32
  go_wp2
  go_ret
  exact ⟨retB HB.out.symm, rfl⟩
end Go.Proofs.YtggmjiddadjilaqDoor
