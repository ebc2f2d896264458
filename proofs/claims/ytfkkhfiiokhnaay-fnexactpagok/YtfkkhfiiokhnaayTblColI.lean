/-
  PROVED HERE: what the program's columnOk answers at every column.
-/
import Derived.Test.YtfkkhfiiokhnaayTblColB
namespace Go.Proofs.Ytfkkhfiiokhnaay
open Go.RowKit

theorem ta_auto_fixed (n : Int) (w : World) : (Instr.typeAssert (.iface 110 (.agg #[.int .i64 n])) 103 112 true).run Try.prog w = .ok (.tuple #[.agg #[.int .i64 0], .bool false]) w := by kernel_rfl
theorem ta_auto_part (n : Int) (w : World) : (Instr.typeAssert (.iface 110 (.agg #[.int .i64 n])) 103 114 true).run Try.prog w = .ok (.tuple #[.agg #[.int .i64 0], .bool false]) w := by kernel_rfl
theorem ta_fixed_fixed (n : Int) (w : World) : (Instr.typeAssert (.iface 112 (.agg #[.int .i64 n])) 103 112 true).run Try.prog w = .ok (.tuple #[.agg #[.int .i64 n], .bool true]) w := by kernel_rfl
theorem ta_fixed_part (n : Int) (w : World) : (Instr.typeAssert (.iface 112 (.agg #[.int .i64 n])) 103 114 true).run Try.prog w = .ok (.tuple #[.agg #[.int .i64 0], .bool false]) w := by kernel_rfl
theorem ta_part_fixed (n : Int) (w : World) : (Instr.typeAssert (.iface 114 (.agg #[.int .i64 n])) 103 112 true).run Try.prog w = .ok (.tuple #[.agg #[.int .i64 0], .bool false]) w := by kernel_rfl
theorem ta_part_part (n : Int) (w : World) : (Instr.typeAssert (.iface 114 (.agg #[.int .i64 n])) 103 114 true).run Try.prog w = .ok (.tuple #[.agg #[.int .i64 n], .bool true]) w := by kernel_rfl
theorem me_auto (n : Int) (w : World) : (method 232 110 (.agg #[.int .i64 n]) "loop.example/panework/impl.number").run Try.prog w = .ok (85, .agg #[.int .i64 n]) w := by kernel_rfl
theorem me_fixed (n : Int) (w : World) : (method 232 112 (.agg #[.int .i64 n]) "loop.example/panework/impl.number").run Try.prog w = .ok (86, .agg #[.int .i64 n]) w := by kernel_rfl
theorem me_part (n : Int) (w : World) : (method 232 114 (.agg #[.int .i64 n]) "loop.example/panework/impl.number").run Try.prog w = .ok (87, .agg #[.int .i64 n]) w := by kernel_rfl

set_option maxRecDepth 100000 in
set_option maxHeartbeats 1000000 in
theorem implColumnOk (k n : Int) (w : World) :
    Calls Try.prog 58 #[.agg #[.int .i64 k, .int .i64 n]] w fun e w' => e = .returned (.bool (colB k n)) ∧ Below w.heap.size w w' := by
  by_cases h0 : k = 0
  · subst h0
    have t1 := fun w => ta_auto_fixed n w
    have t2 := fun w => ta_auto_part n w
    have t3 := fun w => me_auto n w
    have HC := Hid.intro (colB_0 n)
    go_enter Try.func58, Try.ntmps58
    go_wp2_with (first | (go_at_call 33; refine (within_any _ _ _ _).mono ?_; rintro e w' ⟨rfl, rfl⟩) | go_in)
    go_ret
    exact ⟨retB HC.out.symm, by repeat (first | refine k_alloc ?_ _ | exact Below.refl _ _)⟩
  by_cases h1 : k = 1
  · subst h1
    have t1 := fun w => ta_fixed_fixed n w
    have t3 := fun w => me_fixed n w
    have HC := Hid.intro (colB_1 n)
    go_enter Try.func58, Try.ntmps58
    go_wp2_with (first | (go_at_call 33; refine (within_any _ _ _ _).mono ?_; rintro e w' ⟨rfl, rfl⟩) | go_in)
    go_ret
    exact ⟨retB HC.out.symm, by repeat (first | refine k_alloc ?_ _ | exact Below.refl _ _)⟩
  by_cases h2 : k = 2
  · subst h2
    have t1 := fun w => ta_part_fixed n w
    have t2 := fun w => ta_part_part n w
    have t3 := fun w => me_part n w
    have HC := Hid.intro (colB_2 n)
    go_enter Try.func58, Try.ntmps58
    go_wp2_with (first | (go_at_call 33; refine (within_any _ _ _ _).mono ?_; rintro e w' ⟨rfl, rfl⟩) | go_in)
    go_ret
    exact ⟨retB HC.out.symm, by repeat (first | refine k_alloc ?_ _ | exact Below.refl _ _)⟩
  have e0 : (k == 0) = false := beq_eq_false_iff_ne.2 h0
  have e1 : (k == 1) = false := beq_eq_false_iff_ne.2 h1
  have e2 : (k == 2) = false := beq_eq_false_iff_ne.2 h2
  have HC := Hid.intro (colB_no n h0 h1 h2)
  clear h0 h1 h2
  go_enter Try.func58, Try.ntmps58
  go_wp2
  go_ret
  exact ⟨retB HC.out.symm, by repeat (first | refine k_alloc ?_ _ | exact Below.refl _ _)⟩
end Go.Proofs.Ytfkkhfiiokhnaay
