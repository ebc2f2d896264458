/-
  PROVED HERE: what a column of which something may be said is, as a Bool.
-/
import Derived.Test.YtggmjiddadjilaqDoorKit
import Derived.Test.YtggmjiddadjilaqDoorBrdB
import Derived.WalkLawsBesides
import Derived.WalkSpells
namespace Go.Proofs.YtggmjiddadjilaqDoor
open Go.RowKit

def colB (k n : Int) : Bool := decide (k = 0 ∧ n = 0 ∨ k = 1 ∧ 0 ≤ n ∧ n ≤ 60 ∨ k = 2 ∧ 1 ≤ n ∧ n ≤ 100)
theorem colB_0 (n : Int) : colB 0 n = inB n 0 0 := by rw [Bool.eq_iff_iff]; simp [colB, inB]; omega
theorem colB_0' (n : Int) : colB 0 n = (n == 0) := by rw [Bool.eq_iff_iff]; simp [colB]
theorem colB_1 (n : Int) : colB 1 n = inB n 0 60 := by rw [Bool.eq_iff_iff]; simp [colB, inB]
theorem colB_2 (n : Int) : colB 2 n = inB n 1 100 := by rw [Bool.eq_iff_iff]; simp [colB, inB]
theorem colB_no {k : Int} (n : Int) (h0 : k ≠ 0) (h1 : k ≠ 1) (h2 : k ≠ 2) : colB k n = false := by simp [colB]; omega
end Go.Proofs.YtggmjiddadjilaqDoor
