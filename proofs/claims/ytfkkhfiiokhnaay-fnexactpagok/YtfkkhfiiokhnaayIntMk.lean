/-
  PROVED HERE: what a list of numbers is that has just been made.
-/
import Derived.Test.YtfkkhfiiokhnaayMem
namespace Go.Proofs.Ytfkkhfiiokhnaay
open Go.RowKit

def newI (n : Nat) : Array Value := madeCells (Value.int .i64 0).cells (n * 1)
theorem newI_size (n : Nat) : (newI n).size = n := by rw [newI, size_madeCells]; omega
theorem infoI : (Try.prog.info? 3).map (fun i => (i.zero, i.size, i.bytes)) = some (some (Value.int .i64 0), 1, 8) := by kernel_rfl
theorem makeI (n : Nat) (hn : n ≤ 1048576) (u : World) : (Instr.makeSlice 26 (.int .i64 (n : Int)) (.int .i64 (n : Int))).run Try.prog u = .ok (.slice (some ⟨u.heap.size, 0, none⟩) n n) (u.alloc (.cells (newI n) 3)) := by
  obtain ⟨i0, hi, hz0, hz1, hz2⟩ := info_parts infoI
  have h := run_make (P := Try.prog) u 26 3 i0 _ Try.underlying26 hi hz0 .i64 .i64 (n : Int) (n : Int) (by omega) (Int.le_refl _) (by rw [hz2]; omega) (by omega)
  rw [hz1, Int.toNat_natCast] at h
  exact h
end Go.Proofs.Ytfkkhfiiokhnaay
