/-
  PROVED HERE: what a border that is ok is, as a Bool.
-/
import Derived.Test.YtggmjiddadjilaqDoorInB
import Derived.WalkKit
import Derived.ProofKit
import Derived.WalkLawsBesides
import Derived.WalkSpells
import Derived.Below
namespace Go.Proofs.YtggmjiddadjilaqDoor
open Go.RowKit

def brdOkB (a b : Int) : Bool := decide ((a = 0 ∨ a = 4) ∧ b = 0 ∨ (1 ≤ a ∧ a ≤ 3) ∧ 1 ≤ b ∧ b ≤ 3)
theorem brd_zero (b : Int) : brdOkB 0 b = (b == 0) := by rw [Bool.eq_iff_iff]; simp [brdOkB]
theorem brd_four (b : Int) : brdOkB 4 b = (b == 0) := by rw [Bool.eq_iff_iff]; simp [brdOkB]; 
theorem brd_seen {a : Int} (b : Int) (h1 : 1 ≤ a) (h2 : a ≤ 3) : brdOkB a b = inB b 1 3 := by rw [Bool.eq_iff_iff]; simp [brdOkB, inB]; omega
theorem brd_other {a : Int} (b : Int) (h0 : a ≠ 0) (h4 : a ≠ 4) (h : ¬ (1 ≤ a ∧ a ≤ 3)) : brdOkB a b = false := by simp [brdOkB]; omega
end Go.Proofs.YtggmjiddadjilaqDoor
