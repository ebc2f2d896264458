/-
  PROVED HERE: what slices of rows on pages are in memory, for the other texts of this claim; they stay where what was in memory stays.
-/
import Derived.Test.YtfkkhfiiokhnaaiTbl
import Derived.Test.YtfkkhfiiokhnaaiMem
namespace Go.Proofs.Ytfkkhfiiokhnaai
open Go.RowKit

/-- lines of a row -/
structure PgS where
  r : Int
  f : Int
  t : Int
def dP : PgS := ⟨0, 0, 0⟩
/-- the three cells of a slice from an address on -/
def PIs (w : World) (b o : Nat) (x : PgS) : Prop := w.cell? ⟨b, o, none⟩ = some (.int .i64 x.r) ∧ w.cell? ⟨b, o + 1, none⟩ = some (.int .i64 x.f) ∧ w.cell? ⟨b, o + 2, none⟩ = some (.int .i64 x.t)
def PsAt (w : World) (z : Nat) (v : Value) (ps : List PgS) : Prop := At w z v ps.length 3 (fun i b o => PIs w b o (ps.getD i dP))
def PssAt (w : World) (z : Nat) (v : Value) (pss : List (List PgS)) : Prop := At w z v pss.length 1 (fun i b o => ∃ u, w.cell? ⟨b, o, none⟩ = some u ∧ PsAt w z u (pss.getD i []))
theorem PIs.since {w w' : World} {z b o : Nat} {x : PgS} (h : PIs w b o x) (hb : b < w.heap.size) (hz : z ≤ b) (k : Since z w w') : PIs w' b o x := by
  unfold PIs at h ⊢
  simp only [k.cell hz hb]
  exact h
theorem PsAt.since {w w' : World} {z : Nat} {v : Value} {ps : List PgS} (h : PsAt w z v ps) (k : Since z w w') : PsAt w' z v ps :=
  At.mono h k.size (Nat.le_refl _) (fun _ _ _ _ hb hz he => he.since hb hz k)
theorem PssAt.since {w w' : World} {z : Nat} {v : Value} {pss : List (List PgS)} (h : PssAt w z v pss) (k : Since z w w') : PssAt w' z v pss :=
  At.mono h k.size (Nat.le_refl _) (fun _ _ _ _ hb hz ⟨u, h1, h2⟩ => ⟨u, (k.cell hz hb _).trans h1, h2.since k⟩)
theorem PsAt.kept {w w' : World} {z : Nat} {v : Value} {ps : List PgS} (h : PsAt w z v ps) (k : Below w.heap.size w w') : PsAt w' z v ps := h.since (.of_below k)
theorem PssAt.kept {w w' : World} {z : Nat} {v : Value} {pss : List (List PgS)} (h : PssAt w z v pss) (k : Below w.heap.size w w') : PssAt w' z v pss := h.since (.of_below k)
theorem PsAt.base {w : World} {z z' : Nat} {v : Value} {ps : List PgS} (h : PsAt w z v ps) (hz : z' ≤ z) : PsAt w z' v ps := At.mono h (Nat.le_refl _) hz (fun _ _ _ _ _ _ he => he)
theorem PssAt.base {w : World} {z z' : Nat} {v : Value} {pss : List (List PgS)} (h : PssAt w z v pss) (hz : z' ≤ z) : PssAt w z' v pss := At.mono h (Nat.le_refl _) hz (fun _ _ _ _ _ _ ⟨u, h1, h2⟩ => ⟨u, h1, h2.base hz⟩)
/-- the page at a place: for a walk -/
theorem PssAt.get {w : World} {z : Nat} {v : Value} {pss : List (List PgS)} (h : PssAt w z v pss) {i : Nat} (hi : i < pss.length) : ∃ b off cap u, v = .slice (some ⟨b, off, none⟩) pss.length cap ∧ pss.length ≤ cap ∧ cap ≤ maxLen ∧ b < w.heap.size ∧ w.cell? ⟨b, off + i, none⟩ = some u ∧ PsAt w z u (pss.getD i []) := by
  obtain ⟨b, off, cap, e, h1, h2, h3, u, h4, h5⟩ := At.get h hi
  rw [Nat.mul_one] at h4
  exact ⟨b, off, cap, u, e, h1, h2, h3, h4, h5⟩
/-- how much pages are, as the laws count it -/
def pTo (pss : List (List PgS)) (k : Nat) : Nat := ((pss.take k).map List.length).sum
def totP (pss : List (List PgS)) : Nat := pss.length + pTo pss pss.length
theorem pTo_succ {pss : List (List PgS)} {k : Nat} (h : k < pss.length) : pTo pss (k + 1) = pTo pss k + (pss.getD k []).length := by
  have e : pss.getD k [] = pss[k] := by simp [List.getD, h]
  rw [e]
  exact sum_take_succ List.length pss k h
theorem pTo_le (pss : List (List PgS)) (k : Nat) : pTo pss k ≤ pTo pss pss.length := by
  have := sum_take_le List.length pss k
  unfold pTo
  rw [List.take_length]
  exact this
end Go.Proofs.Ytfkkhfiiokhnaai
