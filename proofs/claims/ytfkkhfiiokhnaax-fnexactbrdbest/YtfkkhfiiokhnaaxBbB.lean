/-
  PROVED HERE: the best of borders, as a list's; borders, each with its cell, in memory.
-/
import Derived.Test.YtfkkhfiiokhnaaxBtB
import Derived.Test.YtfkkhfiiokhnaaxTbl
import Derived.Test.YtfkkhfiiokhnaaxBkT
import Derived.Test.YtfkkhfiiokhnaaxMem
namespace Go.Proofs.Ytfkkhfiiokhnaax
open Go.RowKit

/-- a border and from which cell it comes: style, width, cell -/
structure Fr where
  s : Int
  w : Int
  c : Int
def dF : Fr := ⟨0, 0, -1⟩
def btF (a b : Fr) : Bool := beatsB a.s a.w b.s b.w
/-- the best of the first k -/
def bestTo (l : List Fr) : Nat → Fr
  | 0 => dF
  | k + 1 => if k = 0 then l.getD 0 dF else if btF (l.getD k dF) (bestTo l k) = true then l.getD k dF else bestTo l k
def bestF (l : List Fr) : Fr := bestTo l l.length
theorem bestTo_yes {l : List Fr} {k : Nat} (h : btF (l.getD (k + 1) dF) (bestTo l (k + 1)) = true) : bestTo l (k + 2) = l.getD (k + 1) dF := by rw [bestTo, if_neg (by omega), if_pos h]
theorem bestTo_no {l : List Fr} {k : Nat} (h : btF (l.getD (k + 1) dF) (bestTo l (k + 1)) = false) : bestTo l (k + 2) = bestTo l (k + 1) := by rw [bestTo, if_neg (by omega), if_neg (by rw [h]; simp)]
/-- borders in memory -/
def FrsAt (w : World) (z : Nat) (v : Value) (l : List Fr) : Prop := At w z v l.length 3 (fun i b o => w.cell? ⟨b, o, none⟩ = some (.int .i64 (l.getD i dF).s) ∧ w.cell? ⟨b, o + 1, none⟩ = some (.int .i64 (l.getD i dF).w) ∧ w.cell? ⟨b, o + 2, none⟩ = some (.int .i64 (l.getD i dF).c))
theorem FrsAt.kept {w w' : World} {z : Nat} {v : Value} {l : List Fr} (h : FrsAt w z v l) (k : Below w.heap.size w w') : FrsAt w' z v l :=
  At.mono h k.size (Nat.le_refl _) (fun _ b _ _ hb _ he => ⟨(k.cell (p := ⟨b, _, none⟩) hb).trans he.1, (k.cell (p := ⟨b, _, none⟩) hb).trans he.2.1, (k.cell (p := ⟨b, _, none⟩) hb).trans he.2.2⟩)
theorem FrsAt.base {w : World} {z z' : Nat} {v : Value} {l : List Fr} (h : FrsAt w z v l) (hz : z' ≤ z) : FrsAt w z' v l := At.mono h (Nat.le_refl _) hz (fun _ _ _ _ _ _ he => he)
/-- three cells of a block, and none is frozen -/
theorem cells3 {w : World} {g : Nat} {x0 x1 x2 : Value} {t : TypeId} (h : w.heap[g]? = some (.cells #[x0, x1, x2] t)) :
    (w.cell? ⟨g, 0, none⟩ = some x0 ∧ w.cell? ⟨g, 1, none⟩ = some x1 ∧ w.cell? ⟨g, 2, none⟩ = some x2) ∧ w.frozen? ⟨g, 0, none⟩ = false ∧ w.frozen? ⟨g, 1, none⟩ = false ∧ w.frozen? ⟨g, 2, none⟩ = false :=
  ⟨⟨cellB h, cellB h, cellB h⟩, freeB h, freeB h, freeB h⟩
/-- three stores into a block -/
def st3 (w : World) (g : Nat) (y0 y1 y2 : Value) : World := ((w.setCell ⟨g, 0, none⟩ y0).setCell ⟨g, 1, none⟩ y1).setCell ⟨g, 2, none⟩ y2
theorem st3_bk (w : World) (g : Nat) (y0 y1 y2 : Value) : Bk g w (st3 w g y0 y1 y2) := (Bk.set (Bk.set (Bk.set (Bk.refl g w) (p := ⟨g, 0, none⟩) (.inl rfl) y0) (p := ⟨g, 1, none⟩) (.inl rfl) y1) (p := ⟨g, 2, none⟩) (.inl rfl) y2)
theorem st3_is {w : World} {g : Nat} {x0 x1 x2 : Value} {t : TypeId} (h : w.heap[g]? = some (.cells #[x0, x1, x2] t)) (y0 y1 y2 : Value) : (st3 w g y0 y1 y2).heap[g]? = some (.cells #[y0, y1, y2] t) :=
  (setB (setB (setB h (p := 0) y0) (p := 1) y1) (p := 2) y2).trans (by simp)
/-- one, two borders in a new block -/
theorem frs_one (w : World) (a : Fr) (T : TypeId) : FrsAt (w.alloc (.cells #[.int .i64 a.s, .int .i64 a.w, .int .i64 a.c] T)) w.heap.size (.slice (some ⟨w.heap.size, 0, none⟩) 1 1) [a] :=
  ⟨_, 1, rfl, Nat.le_refl _, by decide, fun i hi => ⟨w.heap.size, 0, rfl, by simp, Nat.le_refl _, by
    obtain rfl : i = 0 := by simpa using hi
    exact ⟨cellB (newestB _ _), cellB (newestB _ _), cellB (newestB _ _)⟩⟩⟩
theorem frs_two (w : World) (a b : Fr) (T : TypeId) : FrsAt (w.alloc (.cells #[.int .i64 a.s, .int .i64 a.w, .int .i64 a.c, .int .i64 b.s, .int .i64 b.w, .int .i64 b.c] T)) w.heap.size (.slice (some ⟨w.heap.size, 0, none⟩) 2 2) [a, b] :=
  ⟨_, 2, rfl, Nat.le_refl _, by decide, fun i hi => ⟨w.heap.size, 0, rfl, by simp, Nat.le_refl _, by
    have hi : i < 2 := by simpa using hi
    rcases (by omega : i = 0 ∨ i = 1) with rfl | rfl
    · exact ⟨cellB (newestB _ _), cellB (newestB _ _), cellB (newestB _ _)⟩
    · exact ⟨cellB (newestB _ _), cellB (newestB _ _), cellB (newestB _ _)⟩⟩⟩
end Go.Proofs.Ytfkkhfiiokhnaax
