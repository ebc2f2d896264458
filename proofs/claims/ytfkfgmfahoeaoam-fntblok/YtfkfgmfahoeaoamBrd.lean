/-
  PROVED HERE: what the program's BrdOk and within and the model's BrdOk and l1In answer at every argument: the Bools 'brdOkB' and 'inB'; nothing that was in memory is turned.
-/
import Derived.Test.YtfkfgmfahoeaoamInB
import Derived.WalkKit
import Derived.ProofKit
import Derived.WalkLawsBesides
import Derived.WalkSpells
import Derived.Below
namespace Go.Proofs.Ytfkfgmfahoeaoam
open Go.RowKit

def brdOkB (a b : Int) : Bool := decide ((a = 0 ∨ a = 4) ∧ b = 0 ∨ (1 ≤ a ∧ a ≤ 3) ∧ 1 ≤ b ∧ b ≤ 3)
theorem brd_zero (b : Int) : brdOkB 0 b = (b == 0) := by rw [Bool.eq_iff_iff]; simp [brdOkB]
theorem brd_four (b : Int) : brdOkB 4 b = (b == 0) := by rw [Bool.eq_iff_iff]; simp [brdOkB]; 
theorem brd_seen {a : Int} (b : Int) (h1 : 1 ≤ a) (h2 : a ≤ 3) : brdOkB a b = inB b 1 3 := by rw [Bool.eq_iff_iff]; simp [brdOkB, inB]; omega
theorem brd_other {a : Int} (b : Int) (h0 : a ≠ 0) (h4 : a ≠ 4) (h : ¬ (1 ≤ a ∧ a ≤ 3)) : brdOkB a b = false := by simp [brdOkB]; omega

set_option maxRecDepth 100000 in
set_option maxHeartbeats 400000 in
theorem implBrdOk (a b : Int) (w : World) :
    Calls Try.prog 28 #[.agg #[.int .i64 a, .int .i64 b]] w fun e w' => e = .returned (.bool (brdOkB a b)) ∧ w' = w.alloc (.cells #[.int .i64 a, .int .i64 b] 43) := by
  by_cases h0 : a = 0
  · subst h0
    go_enter Try.func28, Try.ntmps28
    go_wp2
    go_ret
    exact ⟨retB (brd_zero b).symm, rfl⟩
  by_cases h4 : a = 4
  · subst h4
    go_enter Try.func28, Try.ntmps28
    go_wp2
    go_ret
    exact ⟨retB (brd_four b).symm, rfl⟩
  by_cases h1 : a = 1
  · subst h1
    go_enter Try.func28, Try.ntmps28
    go_wp2_with (go_at_call 27; refine (within_any _ _ _ _).mono ?_; rintro e w' ⟨rfl, rfl⟩)
    go_ret
    exact ⟨retB (brd_seen b (by omega) (by omega)).symm, rfl⟩
  by_cases h2 : a = 2
  · subst h2
    go_enter Try.func28, Try.ntmps28
    go_wp2_with (go_at_call 27; refine (within_any _ _ _ _).mono ?_; rintro e w' ⟨rfl, rfl⟩)
    go_ret
    exact ⟨retB (brd_seen b (by omega) (by omega)).symm, rfl⟩
  by_cases h3 : a = 3
  · subst h3
    go_enter Try.func28, Try.ntmps28
    go_wp2_with (go_at_call 27; refine (within_any _ _ _ _).mono ?_; rintro e w' ⟨rfl, rfl⟩)
    go_ret
    exact ⟨retB (brd_seen b (by omega) (by omega)).symm, rfl⟩
  have e0 : (a == 0) = false := beq_eq_false_iff_ne.2 h0
  have e1 : (a == 1) = false := beq_eq_false_iff_ne.2 h1
  have e2 : (a == 2) = false := beq_eq_false_iff_ne.2 h2
  have e3 : (a == 3) = false := beq_eq_false_iff_ne.2 h3
  have e4 : (a == 4) = false := beq_eq_false_iff_ne.2 h4
  have HB : Hid (brdOkB a b = false) := brd_other b h0 h4 (by omega)
  clear h0 h1 h2 h3 h4
  go_enter Try.func28, Try.ntmps28
  go_wp2
  go_ret
  exact ⟨retB HB.out.symm, rfl⟩

set_option maxRecDepth 100000 in
set_option maxHeartbeats 400000 in
theorem specBrdOk (a b : Int) (w : World) :
    Calls Try.prog 46 #[.agg #[.int .i64 a, .int .i64 b]] w fun e w' => e = .returned (.bool (brdOkB a b)) ∧ w' = w.alloc (.cells #[.int .i64 a, .int .i64 b] 43) := by
  by_cases h0 : a = 0
  · subst h0
    go_enter Try.func46, Try.ntmps46
    go_wp2
    go_ret
    exact ⟨retB (brd_zero b).symm, rfl⟩
  by_cases h4 : a = 4
  · subst h4
    go_enter Try.func46, Try.ntmps46
    go_wp2
    go_ret
    exact ⟨retB (brd_four b).symm, rfl⟩
  have e0 : (a == 0) = false := beq_eq_false_iff_ne.2 h0
  have e4 : (a == 4) = false := beq_eq_false_iff_ne.2 h4
  by_cases h : 1 ≤ a ∧ a ≤ 3
  · have hi : inB a 1 3 = true := inB_true h.1 h.2
    have HB : Hid (brdOkB a b = inB b 1 3) := brd_seen b h.1 h.2
    clear h h0 h4
    go_enter Try.func46, Try.ntmps46
    go_wp2_with (go_at_call 32; refine (l1In_any _ _ _ _).mono ?_; rintro e w' ⟨rfl, rfl⟩)
    go_ret
    exact ⟨retB HB.out.symm, rfl⟩
  · have hi : inB a 1 3 = false := inB_false h
    have HB : Hid (brdOkB a b = false) := brd_other b h0 h4 h
    clear h h0 h4
    go_enter Try.func46, Try.ntmps46
    go_wp2_with (go_at_call 32; refine (l1In_any _ _ _ _).mono ?_; rintro e w' ⟨rfl, rfl⟩)
    go_ret
    exact ⟨retB HB.out.symm, rfl⟩
end Go.Proofs.Ytfkfgmfahoeaoam
