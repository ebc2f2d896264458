/-
  PROVED HERE: what the program's allFree and take do with a cell of a grid, on the map of slots.
-/
import Derived.Test.YtfkkhfiiokhnaatGrdTh
namespace Go.Proofs.Ytfkkhfiiokhnaat
open Go.RowKit

theorem allFreeG {R C : Int} {x : GC} (hf : fitsB R C x = true) (hR : R ≤ 8) (hC : C ≤ 94) (w : World) (B : Nat) (L : List (Nat × Nat)) (hT : TakAt w B L) :
    Calls Try.prog 39 #[.map (some B), .agg #[.int .i64 x.row, .int .i64 x.col, .int .i64 x.rows, .int .i64 x.cols, .int .i64 x.ins]] w fun e w' => e = .returned (.bool (freeIn L x.row.toNat x.col.toNat x.rows.toNat x.cols.toNat)) ∧ Below w.heap.size w w' := by
  obtain ⟨e1, e2, e3, e4, h1, h2, h3, h4⟩ := fits_of hf
  have h := allFree_any x.row.toNat x.col.toNat x.rows.toNat x.cols.toNat x.ins (by omega) (by omega) w B L hT
  unfold gcV at h
  rw [← e1, ← e2, ← e3, ← e4] at h
  exact h
theorem takeG {R C : Int} {x : GC} (hf : fitsB R C x = true) (hR : R ≤ 8) (hC : C ≤ 94) (w : World) (B : Nat) (L : List (Nat × Nat)) (hT : TakAt w B L) (hL : L.length ≤ 40 * 752) :
    Calls Try.prog 40 #[.map (some B), .agg #[.int .i64 x.row, .int .i64 x.col, .int .i64 x.rows, .int .i64 x.cols, .int .i64 x.ins]] w fun e w' => (∃ v, e = .returned v) ∧ TakAt w' B (L ++ (slotsG x).map (·.1)) ∧ w.grownBy w' (some B) := by
  have hl := slotsG_len hf hR hC
  obtain ⟨e1, e2, e3, e4, h1, h2, h3, h4⟩ := fits_of hf
  have h := take_any x.row.toNat x.col.toNat x.rows.toNat x.cols.toNat x.ins (by omega) (by omega) w B L hT (by show _ + (slotsG x).length < _; omega)
  unfold gcV at h
  rw [← e1, ← e2, ← e3, ← e4] at h
  exact h
end Go.Proofs.Ytfkkhfiiokhnaat
