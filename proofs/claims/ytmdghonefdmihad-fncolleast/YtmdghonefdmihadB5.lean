/-
  PROVED HERE: what a table is in memory, for the other texts of this claim: cells, columns and rows, each in its place; it stays where what was in memory stays. Also: what a grid is in memory, for the other texts of this claim: its cells, each in its place; it stays where what was in memory stays; the first cell of a kind. Also: small facts for loops over an iterator: what a round keeps of a box; a box's cell behind what is laid since. Also: the program's own iterator over the slots of a cell, for every loop that goes over it; nothing that was in memory is turned.
-/
import Derived.Test.YtmdghonefdmihadB4
import Derived.RangeFuncNested
import Derived.RangeFuncBound
import Derived.RangeFuncCalls
import Derived.RangeFuncLeaves
import Derived.Shelf.Abstract
import Derived.Shelf.RegionOpen
import Derived.WalkKit
import Derived.OwnWalkIn
import Derived.TacticsInMore
import Derived.LoopNIn
import Derived.LoopIn
import Derived.RangeFuncFrom
namespace Go.Proofs.Ytmdghonefdmihad
open Go.RowKit

/-- a cell -/
structure C where
  s : ByteArray
  c : Int
  r : Int
  a1 : Int
  b1 : Int
  a2 : Int
  b2 : Int
  a3 : Int
  b3 : Int
  a4 : Int
  b4 : Int
/-- a row: its cells, whether it is whole -/
structure R where
  cells : List C
  whole : Bool
/-- a table -/
structure T where
  cols : List (Int × Int)
  head : Int
  foot : Int
  rows : List R
  gap : Int
/-- what stands where no cell, no row is -/
def dC : C := ⟨ByteArray.empty, 0, 0, 0, 0, 0, 0, 0, 0, 0, 0⟩
def dR : R := ⟨[], false⟩

/-- the eleven cells of a cell from an address on -/
def CellIs (w : World) (b o : Nat) (x : C) : Prop :=
  w.cell? ⟨b, o, none⟩ = some (.string x.s) ∧ w.cell? ⟨b, o + 1, none⟩ = some (.int .i64 x.c) ∧ w.cell? ⟨b, o + 2, none⟩ = some (.int .i64 x.r) ∧
  w.cell? ⟨b, o + 3, none⟩ = some (.int .i64 x.a1) ∧ w.cell? ⟨b, o + 4, none⟩ = some (.int .i64 x.b1) ∧ w.cell? ⟨b, o + 5, none⟩ = some (.int .i64 x.a2) ∧ w.cell? ⟨b, o + 6, none⟩ = some (.int .i64 x.b2) ∧
  w.cell? ⟨b, o + 7, none⟩ = some (.int .i64 x.a3) ∧ w.cell? ⟨b, o + 8, none⟩ = some (.int .i64 x.b3) ∧ w.cell? ⟨b, o + 9, none⟩ = some (.int .i64 x.a4) ∧ w.cell? ⟨b, o + 10, none⟩ = some (.int .i64 x.b4)

/-- a slice whose elements, sz cells each, are such; they lie in block z or behind it -/
def At (w : World) (z : Nat) (v : Value) (n sz : Nat) (E : Nat → Nat → Nat → Prop) : Prop :=
  ∃ (a : Option Addr) (cap : Nat), v = .slice a n cap ∧ n ≤ cap ∧ cap ≤ maxLen ∧ ∀ i, i < n → ∃ b off, a = some ⟨b, off, none⟩ ∧ b < w.heap.size ∧ z ≤ b ∧ E i b (off + i * sz)

def CellsAt (w : World) (z : Nat) (v : Value) (cs : List C) : Prop := At w z v cs.length 11 (fun i b o => CellIs w b o (cs.getD i dC) ∧ (cs.getD i dC).s.size ≤ maxLen)
def ColsAt (w : World) (z : Nat) (v : Value) (ps : List (Int × Int)) : Prop := At w z v ps.length 2 (fun i b o => w.cell? ⟨b, o, none⟩ = some (.int .i64 (ps.getD i (0, 0)).1) ∧ w.cell? ⟨b, o + 1, none⟩ = some (.int .i64 (ps.getD i (0, 0)).2))
def RowsAt (w : World) (z : Nat) (v : Value) (rs : List R) : Prop := At w z v rs.length 2 (fun i b o => ∃ u, w.cell? ⟨b, o, none⟩ = some u ∧ w.cell? ⟨b, o + 1, none⟩ = some (.bool (rs.getD i dR).whole) ∧ CellsAt w z u (rs.getD i dR).cells)
def TblAt (w : World) (z : Nat) (v : Value) (t : T) : Prop := ∃ vc vr, v = .agg #[vc, .int .i64 t.head, .int .i64 t.foot, vr, .int .i64 t.gap] ∧ ColsAt w z vc t.cols ∧ RowsAt w z vr t.rows

/-- what lies from block z on is as it was -/
structure Since (z : Nat) (w w' : World) : Prop where
  size : w.heap.size ≤ w'.heap.size
  block : ∀ k, z ≤ k → k < w.heap.size → w'.heap[k]? = w.heap[k]?
theorem Since.of_below {z : Nat} {w w' : World} (h : Below w.heap.size w w') : Since z w w' := ⟨h.size, fun k _ hk => h.block k hk⟩
theorem Since.refl (z : Nat) (w : World) : Since z w w := ⟨Nat.le_refl _, fun _ _ _ => rfl⟩
theorem Since.trans {z : Nat} {a b c : World} (h : Since z a b) (k : Since z b c) : Since z a c := ⟨Nat.le_trans h.size k.size, fun i h1 h2 => (k.block i h1 (Nat.lt_of_lt_of_le h2 h.size)).trans (h.block i h1 h2)⟩
theorem Since.set {z : Nat} {a w : World} (h : Since z a w) {p : Addr} (hp : p.block < z) (v : Value) : Since z a (w.setCell p v) :=
  ⟨by simpa [World.setCell] using h.size, fun k h1 h2 => (Below.heap_setCell _ _ _ _ (by omega)).trans (h.block k h1 h2)⟩
theorem Since.alloc {z : Nat} {a w : World} (h : Since z a w) (o : Obj) : Since z a (w.alloc o) := h.trans (Since.of_below (k_alloc (Below.refl _ _) _))
theorem Since.cell {z : Nat} {w w' : World} (h : Since z w w') {b : Nat} (h1 : z ≤ b) (h2 : b < w.heap.size) (p : Nat) : w'.cell? ⟨b, p, none⟩ = w.cell? ⟨b, p, none⟩ := World.cell?_of_block (w := w) (a := ⟨b, p, none⟩) (h.block b h1 h2)

theorem At.mono {w w' : World} {z z' : Nat} {v : Value} {n sz : Nat} {E E' : Nat → Nat → Nat → Prop} (h : At w z v n sz E) (hz : w.heap.size ≤ w'.heap.size) (hzz : z' ≤ z) (hE : ∀ i b o, i < n → b < w.heap.size → z ≤ b → E i b o → E' i b o) : At w' z' v n sz E' := by
  obtain ⟨a, cap, e, h1, h2, hx⟩ := h
  refine ⟨a, cap, e, h1, h2, fun i hi => ?_⟩
  obtain ⟨b, off, ea, hb, hzb, he⟩ := hx i hi
  exact ⟨b, off, ea, Nat.lt_of_lt_of_le hb hz, Nat.le_trans hzz hzb, hE i b _ hi hb hzb he⟩
theorem CellIs.since {w w' : World} {z b o : Nat} {x : C} (h : CellIs w b o x) (hb : b < w.heap.size) (hz : z ≤ b) (k : Since z w w') : CellIs w' b o x := by
  unfold CellIs at h ⊢
  simp only [k.cell hz hb]
  exact h
theorem CellsAt.since {w w' : World} {z : Nat} {v : Value} {cs : List C} (h : CellsAt w z v cs) (k : Since z w w') : CellsAt w' z v cs :=
  At.mono h k.size (Nat.le_refl _) (fun _ _ _ _ hb hz he => ⟨he.1.since hb hz k, he.2⟩)
theorem ColsAt.since {w w' : World} {z : Nat} {v : Value} {cs : List (Int × Int)} (h : ColsAt w z v cs) (k : Since z w w') : ColsAt w' z v cs :=
  At.mono h k.size (Nat.le_refl _) (fun _ _ _ _ hb hz he => ⟨(k.cell hz hb _).trans he.1, (k.cell hz hb _).trans he.2⟩)
theorem RowsAt.since {w w' : World} {z : Nat} {v : Value} {rs : List R} (h : RowsAt w z v rs) (k : Since z w w') : RowsAt w' z v rs :=
  At.mono h k.size (Nat.le_refl _) (fun _ _ _ _ hb hz ⟨u, h1, h2, h3⟩ => ⟨u, (k.cell hz hb _).trans h1, (k.cell hz hb _).trans h2, h3.since k⟩)
theorem TblAt.since {w w' : World} {z : Nat} {v : Value} {t : T} (h : TblAt w z v t) (k : Since z w w') : TblAt w' z v t := by
  obtain ⟨vc, vr, e, h1, h2⟩ := h
  exact ⟨vc, vr, e, h1.since k, h2.since k⟩
theorem CellsAt.kept {w w' : World} {z : Nat} {v : Value} {cs : List C} (h : CellsAt w z v cs) (k : Below w.heap.size w w') : CellsAt w' z v cs := h.since (.of_below k)
theorem ColsAt.kept {w w' : World} {z : Nat} {v : Value} {cs : List (Int × Int)} (h : ColsAt w z v cs) (k : Below w.heap.size w w') : ColsAt w' z v cs := h.since (.of_below k)
theorem RowsAt.kept {w w' : World} {z : Nat} {v : Value} {rs : List R} (h : RowsAt w z v rs) (k : Below w.heap.size w w') : RowsAt w' z v rs := h.since (.of_below k)
theorem TblAt.kept {w w' : World} {z : Nat} {v : Value} {t : T} (h : TblAt w z v t) (k : Below w.heap.size w w') : TblAt w' z v t := h.since (.of_below k)
theorem CellsAt.base {w : World} {z z' : Nat} {v : Value} {cs : List C} (h : CellsAt w z v cs) (hz : z' ≤ z) : CellsAt w z' v cs := At.mono h (Nat.le_refl _) hz (fun _ _ _ _ _ _ he => he)
theorem ColsAt.base {w : World} {z z' : Nat} {v : Value} {cs : List (Int × Int)} (h : ColsAt w z v cs) (hz : z' ≤ z) : ColsAt w z' v cs := At.mono h (Nat.le_refl _) hz (fun _ _ _ _ _ _ he => he)
theorem RowsAt.base {w : World} {z z' : Nat} {v : Value} {rs : List R} (h : RowsAt w z v rs) (hz : z' ≤ z) : RowsAt w z' v rs := At.mono h (Nat.le_refl _) hz (fun _ _ _ _ _ _ ⟨u, h1, h2, h3⟩ => ⟨u, h1, h2, h3.base hz⟩)
/-- The element at a place: for a walk. -/
theorem At.get {w : World} {z : Nat} {v : Value} {n sz : Nat} {E : Nat → Nat → Nat → Prop} (h : At w z v n sz E) {i : Nat} (hi : i < n) : ∃ b off cap, v = .slice (some ⟨b, off, none⟩) n cap ∧ n ≤ cap ∧ cap ≤ maxLen ∧ b < w.heap.size ∧ E i b (off + i * sz) := by
  obtain ⟨a, cap, e, h1, h2, hx⟩ := h
  obtain ⟨b, off, rfl, hb, _, he⟩ := hx i hi
  exact ⟨b, off, cap, e, h1, h2, hb, he⟩
theorem At.form {w : World} {z : Nat} {v : Value} {n sz : Nat} {E : Nat → Nat → Nat → Prop} (h : At w z v n sz E) : ∃ a cap, v = .slice a n cap ∧ n ≤ maxLen := by
  obtain ⟨a, cap, e, h1, h2, _⟩ := h
  exact ⟨a, cap, e, Nat.le_trans h1 h2⟩
theorem sum_take_succ {α : Type} (f : α → Nat) (l : List α) (k : Nat) (h : k < l.length) : ((l.take (k + 1)).map f).sum = ((l.take k).map f).sum + f l[k] := by
  rw [List.take_succ_eq_append_getElem h, List.map_append, List.sum_append]
  simp only [List.map_cons, List.map_nil, List.sum_cons, List.sum_nil, Nat.add_zero]
theorem sum_take_le {α : Type} (f : α → Nat) (l : List α) (k : Nat) : ((l.take k).map f).sum ≤ (l.map f).sum := by
  have h : (l.map f).sum = ((l.take k).map f).sum + ((l.drop k).map f).sum := by
    conv => lhs; rw [← List.take_append_drop k l, List.map_append, List.sum_append]
  omega

/-- how much cells, rows, a table are: as the laws count it -/
def totC : List C → Nat
  | [] => 0
  | x :: r => 1 + x.s.size + totC r
def totR : List R → Nat
  | [] => 0
  | x :: r => 1 + totC x.cells + totR r
def totT (t : T) : Nat := t.cols.length + totR t.rows
/-- the texts of the first k cells together -/
def szTo (cs : List C) (k : Nat) : Nat := ((cs.take k).map (fun x => x.s.size)).sum
theorem szTo_succ {cs : List C} {k : Nat} (h : k < cs.length) : szTo cs (k + 1) = szTo cs k + (cs.getD k dC).s.size := by
  have e : cs.getD k dC = cs[k] := by simp [List.getD, h]
  rw [e]
  exact sum_take_succ (fun x => x.s.size) cs k h
theorem totC_eq (cs : List C) : totC cs = cs.length + szTo cs cs.length := by
  unfold szTo
  rw [List.take_length]
  induction cs with
  | nil => rfl
  | cons x r ih => simp [totC] at ih ⊢; omega
def rwTo (rs : List R) (k : Nat) : Nat := ((rs.take k).map (fun x => totC x.cells)).sum
theorem rwTo_succ {rs : List R} {k : Nat} (h : k < rs.length) : rwTo rs (k + 1) = rwTo rs k + totC (rs.getD k dR).cells := by
  have e : rs.getD k dR = rs[k] := by simp [List.getD, h]
  rw [e]
  exact sum_take_succ (fun x => totC x.cells) rs k h
theorem totR_eq (rs : List R) : totR rs = rs.length + rwTo rs rs.length := by
  unfold rwTo
  rw [List.take_length]
  induction rs with
  | nil => rfl
  | cons x r ih => simp [totR] at ih ⊢; omega
theorem szTo_le (cs : List C) (k : Nat) : szTo cs k ≤ szTo cs cs.length := by
  have := sum_take_le (fun x : C => x.s.size) cs k
  unfold szTo
  rw [List.take_length]
  exact this
theorem rwTo_le (rs : List R) (k : Nat) : rwTo rs k ≤ rwTo rs rs.length := by
  have := sum_take_le (fun x : R => totC x.cells) rs k
  unfold rwTo
  rw [List.take_length]
  exact this
end Go.Proofs.Ytmdghonefdmihad
namespace Go.Proofs.Ytmdghonefdmihad
open Go.RowKit

/-- a cell at its place -/
structure GC where
  row : Int
  col : Int
  rows : Int
  cols : Int
  ins : Int
/-- a grid -/
structure G where
  rows : Int
  cols : Int
  cells : List GC
def dG : GC := ⟨0, 0, 0, 0, 0⟩
def I64 (n : Int) : Prop := -9223372036854775808 ≤ n ∧ n ≤ 9223372036854775807
def GOk (x : GC) : Prop := I64 x.row ∧ I64 x.col ∧ I64 x.rows ∧ I64 x.cols ∧ I64 x.ins
/-- the five cells of a cell from an address on -/
def GIs (w : World) (b o : Nat) (x : GC) : Prop :=
  w.cell? ⟨b, o, none⟩ = some (.int .i64 x.row) ∧ w.cell? ⟨b, o + 1, none⟩ = some (.int .i64 x.col) ∧ w.cell? ⟨b, o + 2, none⟩ = some (.int .i64 x.rows) ∧
  w.cell? ⟨b, o + 3, none⟩ = some (.int .i64 x.cols) ∧ w.cell? ⟨b, o + 4, none⟩ = some (.int .i64 x.ins)
def GsAt (w : World) (z : Nat) (v : Value) (gs : List GC) : Prop := At w z v gs.length 5 (fun i b o => GIs w b o (gs.getD i dG) ∧ GOk (gs.getD i dG))
def GrdAt (w : World) (z : Nat) (v : Value) (g : G) : Prop := ∃ vc, v = .agg #[.int .i64 g.rows, .int .i64 g.cols, vc] ∧ GsAt w z vc g.cells

theorem GIs.since {w w' : World} {z b o : Nat} {x : GC} (h : GIs w b o x) (hb : b < w.heap.size) (hz : z ≤ b) (k : Since z w w') : GIs w' b o x := by
  unfold GIs at h ⊢
  simp only [k.cell hz hb]
  exact h
theorem GsAt.since {w w' : World} {z : Nat} {v : Value} {gs : List GC} (h : GsAt w z v gs) (k : Since z w w') : GsAt w' z v gs :=
  At.mono h k.size (Nat.le_refl _) (fun _ _ _ _ hb hz he => ⟨he.1.since hb hz k, he.2⟩)
theorem GsAt.kept {w w' : World} {z : Nat} {v : Value} {gs : List GC} (h : GsAt w z v gs) (k : Below w.heap.size w w') : GsAt w' z v gs := h.since (.of_below k)
theorem GsAt.base {w : World} {z z' : Nat} {v : Value} {gs : List GC} (h : GsAt w z v gs) (hz : z' ≤ z) : GsAt w z' v gs := At.mono h (Nat.le_refl _) hz (fun _ _ _ _ _ _ he => he)

/-- the place of the first cell of a kind; -1, if there is none -/
def findTo (p : GC → Bool) (gs : List GC) : Int := match gs.findIdx? p with | some k => (k : Int) | none => -1
theorem findTo_hit {p : GC → Bool} {gs : List GC} {k : Nat} (hk : k < gs.length) (h : ∀ i, i < k → p (gs.getD i dG) = false) (hp : p (gs.getD k dG) = true) : findTo p gs = (k : Int) := by
  have e : gs.findIdx? p = some k := by
    rw [List.findIdx?_eq_some_iff_getElem]
    refine ⟨hk, by simpa [List.getD, hk] using hp, fun j hj => ?_⟩
    have := h j hj
    simpa [List.getD, Nat.lt_trans hj hk] using this
  rw [findTo, e]
theorem findTo_none {p : GC → Bool} {gs : List GC} (h : ∀ i, i < gs.length → p (gs.getD i dG) = false) : findTo p gs = -1 := by
  have e : gs.findIdx? p = none := by
    rw [List.findIdx?_eq_none_iff]
    intro x hx
    obtain ⟨i, hi, rfl⟩ := List.mem_iff_getElem.1 hx
    have := h i hi
    simpa [List.getD, hi] using this
  rw [findTo, e]
end Go.Proofs.Ytmdghonefdmihad
namespace Go.Proofs.Ytmdghonefdmihad
open Go.RowKit Go.Shelf

/-- what a round keeps: the text's own box -/
def BoxK (B : Nat) (W W' : World) : Prop := W'.heap[B]? = W.heap[B]?
theorem BoxK.trans {B : Nat} {a b c : World} (h : BoxK B a b) (k : BoxK B b c) : BoxK B a c := Eq.trans k h

theorem BoxK_b {B : Nat} {w : World} (h : B < w.heap.size) (W : World) (l : Nat) (o o' : Obj) (hl : w.heap.size ≤ l) (_ : W.heap[l]? = some o) (_ : o.isCells = false) (_ : o.isWalk = false) : BoxK B W (W.putObj l o') := by
  show (W.putObj l o').heap[B]? = W.heap[B]?
  simp only [World.putObj]
  rw [Array.getElem?_setIfInBounds_ne (by omega)]
theorem cell_of_box_l {W : World} {B : Nat} {v : Value} {t : TypeId} (h : W.heap[B]? = some (.cells #[v] t (0, 0))) : W.cell? ⟨B, 0, none⟩ = some v ∧ W.frozen? ⟨B, 0, none⟩ = false := by
  constructor <;> simp [World.cell?, World.frozen?, h]
theorem cell_new_l (W : World) (v : Value) (t : TypeId) : (W.alloc (.cells #[v] t)).cell? ⟨W.heap.size, 0, none⟩ = some v ∧ (W.alloc (.cells #[v] t)).frozen? ⟨W.heap.size, 0, none⟩ = false :=
  cell_of_box_l (World.alloc_heap_new W _)
theorem cell_alloc_l {W : World} {a : Addr} {v : Value} (o : Obj) (h : W.cell? a = some v) : (W.alloc o).cell? a = some v := cell_kept h (World.grownBy_alloc W o none) (fun r e => by cases e)
theorem frozen_alloc_l {W : World} {a : Addr} {v : Value} (o : Obj) (h : W.cell? a = some v) (hf : W.frozen? a = false) : (W.alloc o).frozen? a = false := (frozen_kept h (World.grownBy_alloc W o none) (fun r e => by cases e)).trans hf
end Go.Proofs.Ytmdghonefdmihad
namespace Go.Proofs.Ytmdghonefdmihad
open Go.RowKit Go.Shelf
attribute [local go_sem] Oper.semAt_some

/-- a slot: row and column, neither great -/
abbrev Sl := { x : Nat × Nat // x.1 ≤ 1000 ∧ x.2 ≤ 1000 }
def toSl (r c : Nat) : Sl := if h : r ≤ 1000 ∧ c ≤ 1000 then ⟨(r, c), h⟩ else ⟨(0, 0), by simp⟩
theorem toSl_of {r c : Nat} (h : r ≤ 1000 ∧ c ≤ 1000) : toSl r c = ⟨(r, c), h⟩ := dif_pos h
theorem toSl_val {r c : Nat} (h : r ≤ 1000 ∧ c ≤ 1000) : (toSl r c).1 = (r, c) := by rw [toSl_of h]
/-- a slot in memory -/
def slV (x : Nat × Nat) : Value := .agg #[.int .i64 x.1, .int .i64 x.2]
/-- the first so many slots of a row, from a column on -/
def rowSl (r c a : Nat) : List Sl := (List.range a).map fun j => toSl r (c + j)
/-- the slots of the first so many rows -/
def rowsSl (r c cs d : Nat) : List Sl := (List.range d).flatMap fun i => rowSl (r + i) c cs
theorem rowSl_succ (r c a : Nat) : rowSl r c (a + 1) = rowSl r c a ++ [toSl r (c + a)] := by simp [rowSl, List.range_succ]
theorem rowsSl_succ (r c cs d : Nat) : rowsSl r c cs (d + 1) = rowsSl r c cs d ++ rowSl (r + d) c cs := by simp [rowsSl, List.range_succ]
theorem rowSl_pre {r c a b : Nat} (h : a ≤ b) : rowSl r c a <+: rowSl r c b := by
  obtain ⟨k, rfl⟩ := Nat.exists_eq_add_of_le h
  simp only [rowSl, List.range_add, List.map_append]
  exact List.prefix_append _ _
theorem rowsSl_pre {r c cs a b : Nat} (h : a ≤ b) : rowsSl r c cs a <+: rowsSl r c cs b := by
  obtain ⟨k, rfl⟩ := Nat.exists_eq_add_of_le h
  simp only [rowsSl, List.range_add, List.flatMap_append]
  exact List.prefix_append _ _
/-- one slot more is still ahead of the end -/
theorem slots_pre {r c cs d a rs : Nat} (hd : d < rs) (ha : a < cs) : (rowsSl r c cs d ++ rowSl (r + d) c a) ++ [toSl (r + d) (c + a)] <+: rowsSl r c cs rs := by
  rw [List.append_assoc, ← rowSl_succ]
  refine List.IsPrefix.trans ?_ (rowsSl_pre (Nat.succ_le_of_lt hd))
  rw [rowsSl_succ]
  exact (List.prefix_append_right_inj _).2 (rowSl_pre ha)
theorem slots_len {r c cs d a rs : Nat} (hd : d < rs) (ha : a < cs) : (rowsSl r c cs d ++ rowSl (r + d) c a).length < (rowsSl r c cs rs).length := by
  have := (slots_pre (r := r) (c := c) hd ha).length_le
  simp only [List.length_append, List.length_cons, List.length_nil] at this ⊢
  omega

/-- the five numbers of a cell at its place, in memory -/
def gcObj (r c rs cs : Nat) (i : Int) : Obj := .cells #[.int .i64 r, .int .i64 c, .int .i64 rs, .int .i64 cs, .int .i64 i] 50

set_option maxRecDepth 100000 in
set_option maxHeartbeats 1000000 in
theorem slots1_in (l B : Nat) (r c rs cs : Nat) (iv : Int) (hr : r + rs ≤ 1000) (hc : c + cs ≤ 1000) (J Jx : List Sl → World → Prop)
    (hY : ∀ pre x W, J pre W → pre.length < (rowsSl r c cs rs).length → YieldAt Fence.wide 2 Try.prog l #[slV x.1] W fun e W' =>
      (e = .returned (.bool true) ∧ J (pre ++ [x]) W' ∧ BoxK B W W') ∨ (e = .returned (.bool false) ∧ Jx (pre ++ [x]) W'))
    (W : World) (hB : W.heap[B]? = some (gcObj r c rs cs iv)) (h0 : J [] W) :
    CallsIn Fence.wide 3 Try.prog 102 #[.func (.yield l) #[] #[], .pointer (some ⟨B, 0, none⟩)] W fun e W' => (∃ v, e = .returned v) ∧
      ((∃ ys, ys = rowsSl r c cs rs ∧ J ys W') ∨ (∃ pre, pre <+: rowsSl r c cs rs ∧ Jx pre W')) := by
  have c0 : W.cell? ⟨B, 2, none⟩ = some (.int .i64 rs) := by simp [World.cell?, hB, gcObj]
  refine callsIn_of_wp Try.func102 rfl trivial ?_ rfl
  simp only [Try.ntmps102, List.size_toArray, List.length_cons, List.length_nil, Nat.reduceAdd, Nat.reduceSub, Array.replicate_succ, Array.replicate_zero, List.push_toArray, List.append_toArray, List.nil_append, List.cons_append]
  gi_wp2
  gi_loopw [7] (fun i wr => ∃ d : Nat, i = .int .i64 d ∧ d ≤ rs ∧ wr.heap[B]? = some (gcObj r c rs cs iv) ∧ J (rowsSl r c cs d) wr) (fun i _ => rs + 1 - (intOf i).toNat)
  case atStart => exact ⟨0, rfl, by omega, hB, h0⟩
  case round =>
    obtain ⟨d, rfl, hd, hBr, hJ⟩ := hrel
    have c1 : wr.cell? ⟨B, 3, none⟩ = some (.int .i64 cs) := by simp [World.cell?, hBr, gcObj]
    by_cases hlt : d < rs
    · gi_wp2
      gi_loopw [12] (fun i wq => ∃ a : Nat, i = .int .i64 a ∧ a ≤ cs ∧ wq.heap[B]? = some (gcObj r c rs cs iv) ∧ J (rowsSl r c cs d ++ rowSl (r + d) c a) wq) (fun i _ => cs + 1 - (intOf i).toNat)
      case atStart => exact ⟨0, rfl, by omega, hBr, by simpa [rowSl] using hJ⟩
      case round =>
        obtain ⟨a, rfl, ha, hBq, hJq⟩ := hrel
        by_cases hla : a < cs
        · have d0 : wr.cell? ⟨B, 0, none⟩ = some (.int .i64 r) := by simp [World.cell?, hBq, gcObj]
          have d1 : wr.cell? ⟨B, 1, none⟩ = some (.int .i64 c) := by simp [World.cell?, hBq, gcObj]
          have hx : (toSl (r + d) (c + a)).1 = (r + d, c + a) := toSl_val (by omega)
          obtain ⟨fn, tmps, assign, body, hy, hR⟩ := hY _ (toSl (r + d) (c + a)) wr hJq (slots_len hlt hla)
          rw [hx] at hy
          dsimp only [slV] at hy
          clear hx
          have HP := Hid.intro (slots_pre (r := r) (c := c) hlt hla)
          have HS := Hid.intro (rowSl_succ (r + d) c a)
          have e1 : ((r + d : Nat) : Int) = (r : Int) + d := by omega
          have e2 : ((c + a : Nat) : Int) = (c : Int) + a := by omega
          simp only [e1, e2] at hy
          clear e1 e2
          gi_wp2
          refine hR.mono ?_
          rintro e W3 (⟨rfl, hJ3, hk3⟩ | ⟨rfl, hJx3⟩)
          · have hB3 := Eq.trans hk3 hBq
            gi_wp2
            go_roundw
            case rel => exact ⟨a + 1, by go_num, by omega, hB3, by rw [HS.out, ← List.append_assoc]; exact hJ3⟩
            case measure => simp [intOf]; omega
          · gi_wp2
            refine bodyPost_ret (results_none rfl _ _ _) rfl ?_
            exact ⟨⟨_, rfl⟩, .inr ⟨_, HP.out, hJx3⟩⟩
        · have ea : Hid (a = cs) := Hid.intro (by omega)
          have HS := Hid.intro (rowsSl_succ r c cs d)
          gi_wp2
          go_roundw
          case rel => exact ⟨d + 1, by go_num, by omega, hBq, by have h := hJq; rw [ea.out] at h; rw [HS.out]; exact h⟩
          case measure => simp [intOf]; omega
    · have ed : Hid (d = rs) := Hid.intro (by omega)
      gi_wp2
      go_end0
      exact ⟨⟨_, rfl⟩, .inl ⟨_, rfl, by rw [← ed.out]; exact hJ⟩⟩

/-- what the value that slotsOf hands back does, whatever loop goes over it -/
theorem slots_stops (B r c rs cs : Nat) (iv : Int) (hr : r + rs ≤ 1000) (hc : c + cs ≤ 1000) (w : World) (hBn : B < w.heap.size) (hb : w.heap[B]? = some (gcObj r c rs cs iv)) :
    SeqStopsK Fence.wide 3 Try.prog 102 #[.pointer (some ⟨B, 0, none⟩)] (fun x : Sl => #[slV x.1]) (BoxK B) (fun ys => ys = rowsSl r c cs rs) (fun pre => pre <+: rowsSl r c cs rs) (rowsSl r c cs rs).length w := fun l J Jx W hW _ _ hY h0 =>
  slots1_in l B r c rs cs iv hr hc J Jx hY W ((hW.block B hBn).trans hb) h0
/-- the cell at its place, as it is handed in -/
def gcV (r c rs cs : Nat) (i : Int) : Value := .agg #[.int .i64 r, .int .i64 c, .int .i64 rs, .int .i64 cs, .int .i64 i]
set_option maxHeartbeats 400000 in
theorem slotsOf_any (r c rs cs : Nat) (i : Int) (w : World) :
    Calls Try.prog 85 #[gcV r c rs cs i] w fun e w' => e = .returned (.func (.func 102) #[] #[.pointer (some ⟨w.heap.size, 0, none⟩)]) ∧ w' = w.alloc (gcObj r c rs cs i) := by
  unfold gcV gcObj
  go_enter Try.func85, Try.ntmps85
  go_wp2
  go_ret
  exact ⟨rfl, rfl⟩
end Go.Proofs.Ytmdghonefdmihad
