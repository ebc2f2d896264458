/-
  PROVED HERE: what a grid is in memory, for the other texts of this claim: its cells, each in its place; it stays where what was in memory stays; the first cell of a kind.
-/
import Derived.Test.YtcbibdhlkdcmiaiTbl
namespace Go.Proofs.Ytcbibdhlkdcmiai
open Go.RowKit

/-- a cell at its place -/
structure GC where
  row : Int
  col : Int
  rows : Int
  cols : Int
  ins : Int
/-- a grid -/
structure G where
  rows : Int
  cols : Int
  cells : List GC
def dG : GC := ⟨0, 0, 0, 0, 0⟩
def I64 (n : Int) : Prop := -9223372036854775808 ≤ n ∧ n ≤ 9223372036854775807
def GOk (x : GC) : Prop := I64 x.row ∧ I64 x.col ∧ I64 x.rows ∧ I64 x.cols ∧ I64 x.ins
/-- the five cells of a cell from an address on -/
def GIs (w : World) (b o : Nat) (x : GC) : Prop :=
  w.cell? ⟨b, o, none⟩ = some (.int .i64 x.row) ∧ w.cell? ⟨b, o + 1, none⟩ = some (.int .i64 x.col) ∧ w.cell? ⟨b, o + 2, none⟩ = some (.int .i64 x.rows) ∧
  w.cell? ⟨b, o + 3, none⟩ = some (.int .i64 x.cols) ∧ w.cell? ⟨b, o + 4, none⟩ = some (.int .i64 x.ins)
def GsAt (w : World) (z : Nat) (v : Value) (gs : List GC) : Prop := At w z v gs.length 5 (fun i b o => GIs w b o (gs.getD i dG) ∧ GOk (gs.getD i dG))
def GrdAt (w : World) (z : Nat) (v : Value) (g : G) : Prop := ∃ vc, v = .agg #[.int .i64 g.rows, .int .i64 g.cols, vc] ∧ GsAt w z vc g.cells

theorem GIs.since {w w' : World} {z b o : Nat} {x : GC} (h : GIs w b o x) (hb : b < w.heap.size) (hz : z ≤ b) (k : Since z w w') : GIs w' b o x := by
  unfold GIs at h ⊢
  simp only [k.cell hz hb]
  exact h
theorem GsAt.since {w w' : World} {z : Nat} {v : Value} {gs : List GC} (h : GsAt w z v gs) (k : Since z w w') : GsAt w' z v gs :=
  At.mono h k.size (Nat.le_refl _) (fun _ _ _ _ hb hz he => ⟨he.1.since hb hz k, he.2⟩)
theorem GsAt.kept {w w' : World} {z : Nat} {v : Value} {gs : List GC} (h : GsAt w z v gs) (k : Below w.heap.size w w') : GsAt w' z v gs := h.since (.of_below k)
theorem GsAt.base {w : World} {z z' : Nat} {v : Value} {gs : List GC} (h : GsAt w z v gs) (hz : z' ≤ z) : GsAt w z' v gs := At.mono h (Nat.le_refl _) hz (fun _ _ _ _ _ _ he => he)

/-- the place of the first cell of a kind; -1, if there is none -/
def findTo (p : GC → Bool) (gs : List GC) : Int := match gs.findIdx? p with | some k => (k : Int) | none => -1
theorem findTo_hit {p : GC → Bool} {gs : List GC} {k : Nat} (hk : k < gs.length) (h : ∀ i, i < k → p (gs.getD i dG) = false) (hp : p (gs.getD k dG) = true) : findTo p gs = (k : Int) := by
  have e : gs.findIdx? p = some k := by
    rw [List.findIdx?_eq_some_iff_getElem]
    refine ⟨hk, by simpa [List.getD, hk] using hp, fun j hj => ?_⟩
    have := h j hj
    simpa [List.getD, Nat.lt_trans hj hk] using this
  rw [findTo, e]
theorem findTo_none {p : GC → Bool} {gs : List GC} (h : ∀ i, i < gs.length → p (gs.getD i dG) = false) : findTo p gs = -1 := by
  have e : gs.findIdx? p = none := by
    rw [List.findIdx?_eq_none_iff]
    intro x hx
    obtain ⟨i, hi, rfl⟩ := List.mem_iff_getElem.1 hx
    have := h i hi
    simpa [List.getD, hi] using this
  rw [findTo, e]
end Go.Proofs.Ytcbibdhlkdcmiai
