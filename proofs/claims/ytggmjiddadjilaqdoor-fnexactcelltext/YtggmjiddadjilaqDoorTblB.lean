/-
  PROVED HERE: what a table that is ok is, as a Bool.
-/
import Derived.Test.YtggmjiddadjilaqDoorTbl
import Derived.Test.YtggmjiddadjilaqDoorCellB
import Derived.Test.YtggmjiddadjilaqDoorTblColB
import Derived.Lib.SmallJoins
namespace Go.Proofs.YtggmjiddadjilaqDoor
open Go.RowKit

def cB (x : C) : Bool := cellOkB x.s x.c x.r x.a1 x.b1 x.a2 x.b2 x.a3 x.b3 x.a4 x.b4
def rowB (r : R) : Bool := decide (r.cells.length ≤ 5) && r.cells.all cB
def colsB (ps : List (Int × Int)) : Bool := decide (ps.length ≤ 8) && ps.all (fun p => colB p.1 p.2)
def partsB (n : Nat) (hd ft : Int) : Bool := inB hd 0 n && inB ft 0 (n - hd)
theorem all_true {α : Type} (d : α) (p : α → Bool) (l : List α) (h : ∀ j, j < l.length → p (l.getD j d) = true) : l.all p = true := by
  rw [List.all_eq_true]
  intro x hx
  obtain ⟨j, hj, rfl⟩ := List.getElem_of_mem hx
  have e : l.getD j d = l[j] := by simp [List.getD, hj]
  rw [← e]; exact h j hj
theorem all_false {α : Type} (d : α) (p : α → Bool) (l : List α) (k : Nat) (hk : k < l.length) (h : p (l.getD k d) = false) : l.all p = false := by
  have e : l.getD k d = l[k] := by simp [List.getD, hk]
  rw [e] at h
  cases hb : l.all p with
  | false => rfl
  | true => rw [List.all_eq_true.1 hb _ (List.getElem_mem hk)] at h; cases h
theorem next_true {α : Type} {d : α} {p : α → Bool} {l : List α} {k : Nat} (h : ∀ j, j < k → p (l.getD j d) = true) (hk : p (l.getD k d) = true) : ∀ j, j < k + 1 → p (l.getD j d) = true := by
  intro j hj
  rcases Nat.lt_or_eq_of_le (Nat.lt_succ_iff.1 hj) with h1 | h1
  · exact h j h1
  · rw [h1]; exact hk
def tblB (t : T) : Bool := inB t.rows.length 1 8 && (partsB t.rows.length t.head t.foot && (inB t.gap 0 3 && (colsB t.cols && t.rows.all rowB)))
theorem newestO (w : World) (q : Obj) : (w.alloc q).heap[w.heap.size]? = some q := by show (w.heap.push q)[w.heap.size]? = _; simp
theorem fiveO {w : World} {g : Nat} {x0 x1 x2 x3 x4 : Value} {t : TypeId} (h : w.heap[g]? = some (.cells #[x0, x1, x2, x3, x4] t)) :
    w.cell? ⟨g, 0, none⟩ = some x0 ∧ w.cell? ⟨g, 1, none⟩ = some x1 ∧ w.cell? ⟨g, 2, none⟩ = some x2 ∧ w.cell? ⟨g, 3, none⟩ = some x3 ∧ w.cell? ⟨g, 4, none⟩ = some x4 :=
  ⟨Joins.cell_of_block h 0, Joins.cell_of_block h 1, Joins.cell_of_block h 2, Joins.cell_of_block h 3, Joins.cell_of_block h 4⟩
end Go.Proofs.YtggmjiddadjilaqDoor
