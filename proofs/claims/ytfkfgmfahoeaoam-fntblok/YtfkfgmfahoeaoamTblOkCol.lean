/-
  PROVED HERE: what the program's columnOk and the model's l2Col answer at every column: one Bool; nothing that was in memory is turned.
-/
import Derived.Test.YtfkfgmfahoeaoamKit
import Derived.Test.YtfkfgmfahoeaoamBrd
import Derived.WalkLawsBesides
import Derived.WalkSpells
namespace Go.Proofs.Ytfkfgmfahoeaoam
open Go.RowKit

def colB (k n : Int) : Bool := decide (k = 0 ∧ n = 0 ∨ k = 1 ∧ 0 ≤ n ∧ n ≤ 60 ∨ k = 2 ∧ 1 ≤ n ∧ n ≤ 100)
theorem colB_0 (n : Int) : colB 0 n = inB n 0 0 := by rw [Bool.eq_iff_iff]; simp [colB, inB]; omega
theorem colB_0' (n : Int) : colB 0 n = (n == 0) := by rw [Bool.eq_iff_iff]; simp [colB]
theorem colB_1 (n : Int) : colB 1 n = inB n 0 60 := by rw [Bool.eq_iff_iff]; simp [colB, inB]
theorem colB_2 (n : Int) : colB 2 n = inB n 1 100 := by rw [Bool.eq_iff_iff]; simp [colB, inB]
theorem colB_no {k : Int} (n : Int) (h0 : k ≠ 0) (h1 : k ≠ 1) (h2 : k ≠ 2) : colB k n = false := by simp [colB]; omega

theorem ta_auto_fixed (n : Int) (w : World) : (Instr.typeAssert (.iface 92 (.agg #[.int .i64 n])) 86 94 true).run Try.prog w = .ok (.tuple #[.agg #[.int .i64 0], .bool false]) w := by kernel_rfl
theorem ta_auto_part (n : Int) (w : World) : (Instr.typeAssert (.iface 92 (.agg #[.int .i64 n])) 86 96 true).run Try.prog w = .ok (.tuple #[.agg #[.int .i64 0], .bool false]) w := by kernel_rfl
theorem ta_fixed_fixed (n : Int) (w : World) : (Instr.typeAssert (.iface 94 (.agg #[.int .i64 n])) 86 94 true).run Try.prog w = .ok (.tuple #[.agg #[.int .i64 n], .bool true]) w := by kernel_rfl
theorem ta_fixed_part (n : Int) (w : World) : (Instr.typeAssert (.iface 94 (.agg #[.int .i64 n])) 86 96 true).run Try.prog w = .ok (.tuple #[.agg #[.int .i64 0], .bool false]) w := by kernel_rfl
theorem ta_part_fixed (n : Int) (w : World) : (Instr.typeAssert (.iface 96 (.agg #[.int .i64 n])) 86 94 true).run Try.prog w = .ok (.tuple #[.agg #[.int .i64 0], .bool false]) w := by kernel_rfl
theorem ta_part_part (n : Int) (w : World) : (Instr.typeAssert (.iface 96 (.agg #[.int .i64 n])) 86 96 true).run Try.prog w = .ok (.tuple #[.agg #[.int .i64 n], .bool true]) w := by kernel_rfl
theorem me_auto (n : Int) (w : World) : (method 210 92 (.agg #[.int .i64 n]) "loop.example/panework/impl.number").run Try.prog w = .ok (66, .agg #[.int .i64 n]) w := by kernel_rfl
theorem me_fixed (n : Int) (w : World) : (method 210 94 (.agg #[.int .i64 n]) "loop.example/panework/impl.number").run Try.prog w = .ok (67, .agg #[.int .i64 n]) w := by kernel_rfl
theorem me_part (n : Int) (w : World) : (method 210 96 (.agg #[.int .i64 n]) "loop.example/panework/impl.number").run Try.prog w = .ok (68, .agg #[.int .i64 n]) w := by kernel_rfl

set_option maxRecDepth 100000 in
set_option maxHeartbeats 1000000 in
theorem implColumnOk (k n : Int) (w : World) :
    Calls Try.prog 44 #[.agg #[.int .i64 k, .int .i64 n]] w fun e w' => e = .returned (.bool (colB k n)) ∧ Below w.heap.size w w' := by
  by_cases h0 : k = 0
  · subst h0
    have t1 := fun w => ta_auto_fixed n w
    have t2 := fun w => ta_auto_part n w
    have t3 := fun w => me_auto n w
    have HC := Hid.intro (colB_0 n)
    go_enter Try.func44, Try.ntmps44
    go_wp2_with (first | (go_at_call 27; refine (within_any _ _ _ _).mono ?_; rintro e w' ⟨rfl, rfl⟩) | go_in)
    go_ret
    exact ⟨retB HC.out.symm, by repeat (first | refine k_alloc ?_ _ | exact Below.refl _ _)⟩
  by_cases h1 : k = 1
  · subst h1
    have t1 := fun w => ta_fixed_fixed n w
    have t3 := fun w => me_fixed n w
    have HC := Hid.intro (colB_1 n)
    go_enter Try.func44, Try.ntmps44
    go_wp2_with (first | (go_at_call 27; refine (within_any _ _ _ _).mono ?_; rintro e w' ⟨rfl, rfl⟩) | go_in)
    go_ret
    exact ⟨retB HC.out.symm, by repeat (first | refine k_alloc ?_ _ | exact Below.refl _ _)⟩
  by_cases h2 : k = 2
  · subst h2
    have t1 := fun w => ta_part_fixed n w
    have t2 := fun w => ta_part_part n w
    have t3 := fun w => me_part n w
    have HC := Hid.intro (colB_2 n)
    go_enter Try.func44, Try.ntmps44
    go_wp2_with (first | (go_at_call 27; refine (within_any _ _ _ _).mono ?_; rintro e w' ⟨rfl, rfl⟩) | go_in)
    go_ret
    exact ⟨retB HC.out.symm, by repeat (first | refine k_alloc ?_ _ | exact Below.refl _ _)⟩
  have e0 : (k == 0) = false := beq_eq_false_iff_ne.2 h0
  have e1 : (k == 1) = false := beq_eq_false_iff_ne.2 h1
  have e2 : (k == 2) = false := beq_eq_false_iff_ne.2 h2
  have HC := Hid.intro (colB_no n h0 h1 h2)
  clear h0 h1 h2
  go_enter Try.func44, Try.ntmps44
  go_wp2
  go_ret
  exact ⟨retB HC.out.symm, by repeat (first | refine k_alloc ?_ _ | exact Below.refl _ _)⟩

set_option maxRecDepth 100000 in
set_option maxHeartbeats 1000000 in
theorem specL2Col (k n : Int) (w : World) :
    Calls Try.prog 33 #[.agg #[.int .i64 k, .int .i64 n]] w fun e w' => e = .returned (.bool (colB k n)) ∧ Below w.heap.size w w' := by
  by_cases h0 : k = 0
  · subst h0
    have HC := Hid.intro (colB_0' n)
    go_enter Try.func33, Try.ntmps33
    go_wp2
    go_ret
    exact ⟨retB HC.out.symm, by repeat (first | refine k_alloc ?_ _ | exact Below.refl _ _)⟩
  by_cases h1 : k = 1
  · subst h1
    have HC := Hid.intro (colB_1 n)
    go_enter Try.func33, Try.ntmps33
    go_wp2_with (go_at_call 32; refine (l1In_any _ _ _ _).mono ?_; rintro e w' ⟨rfl, rfl⟩)
    go_ret
    exact ⟨retB HC.out.symm, by repeat (first | refine k_alloc ?_ _ | exact Below.refl _ _)⟩
  by_cases h2 : k = 2
  · subst h2
    have HC := Hid.intro (colB_2 n)
    go_enter Try.func33, Try.ntmps33
    go_wp2_with (go_at_call 32; refine (l1In_any _ _ _ _).mono ?_; rintro e w' ⟨rfl, rfl⟩)
    go_ret
    exact ⟨retB HC.out.symm, by repeat (first | refine k_alloc ?_ _ | exact Below.refl _ _)⟩
  have e0 : (k == 0) = false := beq_eq_false_iff_ne.2 h0
  have e1 : (k == 1) = false := beq_eq_false_iff_ne.2 h1
  have e2 : (k == 2) = false := beq_eq_false_iff_ne.2 h2
  have HC := Hid.intro (colB_no n h0 h1 h2)
  clear h0 h1 h2
  go_enter Try.func33, Try.ntmps33
  go_wp2
  go_ret
  exact ⟨retB HC.out.symm, by repeat (first | refine k_alloc ?_ _ | exact Below.refl _ _)⟩
end Go.Proofs.Ytfkfgmfahoeaoam
