/-
  PROVED HERE: what a table is in memory, for the other texts of this claim: cells, columns and rows, each in its place; it stays where what was in memory stays.
-/
import Derived.Test.YtggmjiddadjilaqDoorKit
namespace Go.Proofs.YtggmjiddadjilaqDoor
open Go.RowKit

/-- a cell -/
structure C where
  s : ByteArray
  c : Int
  r : Int
  a1 : Int
  b1 : Int
  a2 : Int
  b2 : Int
  a3 : Int
  b3 : Int
  a4 : Int
  b4 : Int
/-- a row: its cells, whether it is whole -/
structure R where
  cells : List C
  whole : Bool
/-- a table -/
structure T where
  cols : List (Int × Int)
  head : Int
  foot : Int
  rows : List R
  gap : Int
/-- what stands where no cell, no row is -/
def dC : C := ⟨ByteArray.empty, 0, 0, 0, 0, 0, 0, 0, 0, 0, 0⟩
def dR : R := ⟨[], false⟩

/-- the eleven cells of a cell from an address on -/
def CellIs (w : World) (b o : Nat) (x : C) : Prop :=
  w.cell? ⟨b, o, none⟩ = some (.string x.s) ∧ w.cell? ⟨b, o + 1, none⟩ = some (.int .i64 x.c) ∧ w.cell? ⟨b, o + 2, none⟩ = some (.int .i64 x.r) ∧
  w.cell? ⟨b, o + 3, none⟩ = some (.int .i64 x.a1) ∧ w.cell? ⟨b, o + 4, none⟩ = some (.int .i64 x.b1) ∧ w.cell? ⟨b, o + 5, none⟩ = some (.int .i64 x.a2) ∧ w.cell? ⟨b, o + 6, none⟩ = some (.int .i64 x.b2) ∧
  w.cell? ⟨b, o + 7, none⟩ = some (.int .i64 x.a3) ∧ w.cell? ⟨b, o + 8, none⟩ = some (.int .i64 x.b3) ∧ w.cell? ⟨b, o + 9, none⟩ = some (.int .i64 x.a4) ∧ w.cell? ⟨b, o + 10, none⟩ = some (.int .i64 x.b4)

/-- a slice whose elements, sz cells each, are such; they lie in block z or behind it -/
def At (w : World) (z : Nat) (v : Value) (n sz : Nat) (E : Nat → Nat → Nat → Prop) : Prop :=
  ∃ (a : Option Addr) (cap : Nat), v = .slice a n cap ∧ n ≤ cap ∧ cap ≤ maxLen ∧ ∀ i, i < n → ∃ b off, a = some ⟨b, off, none⟩ ∧ b < w.heap.size ∧ z ≤ b ∧ E i b (off + i * sz)

def CellsAt (w : World) (z : Nat) (v : Value) (cs : List C) : Prop := At w z v cs.length 11 (fun i b o => CellIs w b o (cs.getD i dC) ∧ (cs.getD i dC).s.size ≤ maxLen)
def ColsAt (w : World) (z : Nat) (v : Value) (ps : List (Int × Int)) : Prop := At w z v ps.length 2 (fun i b o => w.cell? ⟨b, o, none⟩ = some (.int .i64 (ps.getD i (0, 0)).1) ∧ w.cell? ⟨b, o + 1, none⟩ = some (.int .i64 (ps.getD i (0, 0)).2))
def RowsAt (w : World) (z : Nat) (v : Value) (rs : List R) : Prop := At w z v rs.length 2 (fun i b o => ∃ u, w.cell? ⟨b, o, none⟩ = some u ∧ w.cell? ⟨b, o + 1, none⟩ = some (.bool (rs.getD i dR).whole) ∧ CellsAt w z u (rs.getD i dR).cells)
def TblAt (w : World) (z : Nat) (v : Value) (t : T) : Prop := ∃ vc vr, v = .agg #[vc, .int .i64 t.head, .int .i64 t.foot, vr, .int .i64 t.gap] ∧ ColsAt w z vc t.cols ∧ RowsAt w z vr t.rows

/-- what lies from block z on is as it was -/
structure Since (z : Nat) (w w' : World) : Prop where
  size : w.heap.size ≤ w'.heap.size
  block : ∀ k, z ≤ k → k < w.heap.size → w'.heap[k]? = w.heap[k]?
theorem Since.of_below {z : Nat} {w w' : World} (h : Below w.heap.size w w') : Since z w w' := ⟨h.size, fun k _ hk => h.block k hk⟩
theorem Since.refl (z : Nat) (w : World) : Since z w w := ⟨Nat.le_refl _, fun _ _ _ => rfl⟩
theorem Since.trans {z : Nat} {a b c : World} (h : Since z a b) (k : Since z b c) : Since z a c := ⟨Nat.le_trans h.size k.size, fun i h1 h2 => (k.block i h1 (Nat.lt_of_lt_of_le h2 h.size)).trans (h.block i h1 h2)⟩
theorem Since.set {z : Nat} {a w : World} (h : Since z a w) {p : Addr} (hp : p.block < z) (v : Value) : Since z a (w.setCell p v) :=
  ⟨by simpa [World.setCell] using h.size, fun k h1 h2 => (Below.heap_setCell _ _ _ _ (by omega)).trans (h.block k h1 h2)⟩
theorem Since.alloc {z : Nat} {a w : World} (h : Since z a w) (o : Obj) : Since z a (w.alloc o) := h.trans (Since.of_below (k_alloc (Below.refl _ _) _))
theorem Since.cell {z : Nat} {w w' : World} (h : Since z w w') {b : Nat} (h1 : z ≤ b) (h2 : b < w.heap.size) (p : Nat) : w'.cell? ⟨b, p, none⟩ = w.cell? ⟨b, p, none⟩ := World.cell?_of_block (w := w) (a := ⟨b, p, none⟩) (h.block b h1 h2)

theorem At.mono {w w' : World} {z z' : Nat} {v : Value} {n sz : Nat} {E E' : Nat → Nat → Nat → Prop} (h : At w z v n sz E) (hz : w.heap.size ≤ w'.heap.size) (hzz : z' ≤ z) (hE : ∀ i b o, i < n → b < w.heap.size → z ≤ b → E i b o → E' i b o) : At w' z' v n sz E' := by
  obtain ⟨a, cap, e, h1, h2, hx⟩ := h
  refine ⟨a, cap, e, h1, h2, fun i hi => ?_⟩
  obtain ⟨b, off, ea, hb, hzb, he⟩ := hx i hi
  exact ⟨b, off, ea, Nat.lt_of_lt_of_le hb hz, Nat.le_trans hzz hzb, hE i b _ hi hb hzb he⟩
theorem CellIs.since {w w' : World} {z b o : Nat} {x : C} (h : CellIs w b o x) (hb : b < w.heap.size) (hz : z ≤ b) (k : Since z w w') : CellIs w' b o x := by
  unfold CellIs at h ⊢
  simp only [k.cell hz hb]
  exact h
theorem CellsAt.since {w w' : World} {z : Nat} {v : Value} {cs : List C} (h : CellsAt w z v cs) (k : Since z w w') : CellsAt w' z v cs :=
  At.mono h k.size (Nat.le_refl _) (fun _ _ _ _ hb hz he => ⟨he.1.since hb hz k, he.2⟩)
theorem ColsAt.since {w w' : World} {z : Nat} {v : Value} {cs : List (Int × Int)} (h : ColsAt w z v cs) (k : Since z w w') : ColsAt w' z v cs :=
  At.mono h k.size (Nat.le_refl _) (fun _ _ _ _ hb hz he => ⟨(k.cell hz hb _).trans he.1, (k.cell hz hb _).trans he.2⟩)
theorem RowsAt.since {w w' : World} {z : Nat} {v : Value} {rs : List R} (h : RowsAt w z v rs) (k : Since z w w') : RowsAt w' z v rs :=
  At.mono h k.size (Nat.le_refl _) (fun _ _ _ _ hb hz ⟨u, h1, h2, h3⟩ => ⟨u, (k.cell hz hb _).trans h1, (k.cell hz hb _).trans h2, h3.since k⟩)
theorem TblAt.since {w w' : World} {z : Nat} {v : Value} {t : T} (h : TblAt w z v t) (k : Since z w w') : TblAt w' z v t := by
  obtain ⟨vc, vr, e, h1, h2⟩ := h
  exact ⟨vc, vr, e, h1.since k, h2.since k⟩
theorem CellsAt.kept {w w' : World} {z : Nat} {v : Value} {cs : List C} (h : CellsAt w z v cs) (k : Below w.heap.size w w') : CellsAt w' z v cs := h.since (.of_below k)
theorem ColsAt.kept {w w' : World} {z : Nat} {v : Value} {cs : List (Int × Int)} (h : ColsAt w z v cs) (k : Below w.heap.size w w') : ColsAt w' z v cs := h.since (.of_below k)
theorem RowsAt.kept {w w' : World} {z : Nat} {v : Value} {rs : List R} (h : RowsAt w z v rs) (k : Below w.heap.size w w') : RowsAt w' z v rs := h.since (.of_below k)
theorem TblAt.kept {w w' : World} {z : Nat} {v : Value} {t : T} (h : TblAt w z v t) (k : Below w.heap.size w w') : TblAt w' z v t := h.since (.of_below k)
theorem CellsAt.base {w : World} {z z' : Nat} {v : Value} {cs : List C} (h : CellsAt w z v cs) (hz : z' ≤ z) : CellsAt w z' v cs := At.mono h (Nat.le_refl _) hz (fun _ _ _ _ _ _ he => he)
theorem ColsAt.base {w : World} {z z' : Nat} {v : Value} {cs : List (Int × Int)} (h : ColsAt w z v cs) (hz : z' ≤ z) : ColsAt w z' v cs := At.mono h (Nat.le_refl _) hz (fun _ _ _ _ _ _ he => he)
theorem RowsAt.base {w : World} {z z' : Nat} {v : Value} {rs : List R} (h : RowsAt w z v rs) (hz : z' ≤ z) : RowsAt w z' v rs := At.mono h (Nat.le_refl _) hz (fun _ _ _ _ _ _ ⟨u, h1, h2, h3⟩ => ⟨u, h1, h2, h3.base hz⟩)
/-- The element at a place: for a walk. -/
theorem At.get {w : World} {z : Nat} {v : Value} {n sz : Nat} {E : Nat → Nat → Nat → Prop} (h : At w z v n sz E) {i : Nat} (hi : i < n) : ∃ b off cap, v = .slice (some ⟨b, off, none⟩) n cap ∧ n ≤ cap ∧ cap ≤ maxLen ∧ b < w.heap.size ∧ E i b (off + i * sz) := by
  obtain ⟨a, cap, e, h1, h2, hx⟩ := h
  obtain ⟨b, off, rfl, hb, _, he⟩ := hx i hi
  exact ⟨b, off, cap, e, h1, h2, hb, he⟩
theorem At.form {w : World} {z : Nat} {v : Value} {n sz : Nat} {E : Nat → Nat → Nat → Prop} (h : At w z v n sz E) : ∃ a cap, v = .slice a n cap ∧ n ≤ maxLen := by
  obtain ⟨a, cap, e, h1, h2, _⟩ := h
  exact ⟨a, cap, e, Nat.le_trans h1 h2⟩
theorem sum_take_succ {α : Type} (f : α → Nat) (l : List α) (k : Nat) (h : k < l.length) : ((l.take (k + 1)).map f).sum = ((l.take k).map f).sum + f l[k] := by
  rw [List.take_succ_eq_append_getElem h, List.map_append, List.sum_append]
  simp only [List.map_cons, List.map_nil, List.sum_cons, List.sum_nil, Nat.add_zero]
theorem sum_take_le {α : Type} (f : α → Nat) (l : List α) (k : Nat) : ((l.take k).map f).sum ≤ (l.map f).sum := by
  have h : (l.map f).sum = ((l.take k).map f).sum + ((l.drop k).map f).sum := by
    conv => lhs; rw [← List.take_append_drop k l, List.map_append, List.sum_append]
  omega

/-- how much cells, rows, a table are: as the laws count it -/
def totC : List C → Nat
  | [] => 0
  | x :: r => 1 + x.s.size + totC r
def totR : List R → Nat
  | [] => 0
  | x :: r => 1 + totC x.cells + totR r
def totT (t : T) : Nat := t.cols.length + totR t.rows
/-- the texts of the first k cells together -/
def szTo (cs : List C) (k : Nat) : Nat := ((cs.take k).map (fun x => x.s.size)).sum
theorem szTo_succ {cs : List C} {k : Nat} (h : k < cs.length) : szTo cs (k + 1) = szTo cs k + (cs.getD k dC).s.size := by
  have e : cs.getD k dC = cs[k] := by simp [List.getD, h]
  rw [e]
  exact sum_take_succ (fun x => x.s.size) cs k h
theorem totC_eq (cs : List C) : totC cs = cs.length + szTo cs cs.length := by
  unfold szTo
  rw [List.take_length]
  induction cs with
  | nil => rfl
  | cons x r ih => simp [totC] at ih ⊢; omega
def rwTo (rs : List R) (k : Nat) : Nat := ((rs.take k).map (fun x => totC x.cells)).sum
theorem rwTo_succ {rs : List R} {k : Nat} (h : k < rs.length) : rwTo rs (k + 1) = rwTo rs k + totC (rs.getD k dR).cells := by
  have e : rs.getD k dR = rs[k] := by simp [List.getD, h]
  rw [e]
  exact sum_take_succ (fun x => totC x.cells) rs k h
theorem totR_eq (rs : List R) : totR rs = rs.length + rwTo rs rs.length := by
  unfold rwTo
  rw [List.take_length]
  induction rs with
  | nil => rfl
  | cons x r ih => simp [totR] at ih ⊢; omega
theorem szTo_le (cs : List C) (k : Nat) : szTo cs k ≤ szTo cs cs.length := by
  have := sum_take_le (fun x : C => x.s.size) cs k
  unfold szTo
  rw [List.take_length]
  exact this
theorem rwTo_le (rs : List R) (k : Nat) : rwTo rs k ≤ rwTo rs rs.length := by
  have := sum_take_le (fun x : R => totC x.cells) rs k
  unfold rwTo
  rw [List.take_length]
  exact this
end Go.Proofs.YtggmjiddadjilaqDoor
