/-
  PROVED HERE: what a table is in memory, for the other texts of this claim: cells, columns and rows, each in its place; it stays where what was in memory stays. Also: what a grid is in memory, for the other texts of this claim: its cells, each in its place; it stays where what was in memory stays; the first cell of a kind. Also: small laws on blocks of cells in memory, for the other texts of this claim. Also: numbers between two others, as a Bool. Also: what the program's within and the model's l1In answer at every argument: the Bool 'inB'; nothing that was in memory is turned. Also: small facts on grids: whether a cell fits, whether cells meet, whether a grid is ok; cells meet just if they have a slot in common.
-/
import Derived.Test.YtggmjiddadjilalB1
import Derived.Test.YtggmjiddadjilalB3
import Derived.Laws.MakeOwn
import Derived.OwnWalk
import Derived.Lib.SmallJoins
import Derived.Test.YtggmjiddadjilalRows
import Derived.WalkKit
import Derived.ProofKit
import Derived.WalkLawsBesides
import Derived.WalkSpells
import Derived.Below
namespace Go.Proofs.Ytggmjiddadjilal
open Go.RowKit

/-- a cell -/
structure C where
  s : ByteArray
  c : Int
  r : Int
  a1 : Int
  b1 : Int
  a2 : Int
  b2 : Int
  a3 : Int
  b3 : Int
  a4 : Int
  b4 : Int
/-- a row: its cells, whether it is whole -/
structure R where
  cells : List C
  whole : Bool
/-- a table -/
structure T where
  cols : List (Int × Int)
  head : Int
  foot : Int
  rows : List R
  gap : Int
/-- what stands where no cell, no row is -/
def dC : C := ⟨ByteArray.empty, 0, 0, 0, 0, 0, 0, 0, 0, 0, 0⟩
def dR : R := ⟨[], false⟩

/-- the eleven cells of a cell from an address on -/
def CellIs (w : World) (b o : Nat) (x : C) : Prop :=
  w.cell? ⟨b, o, none⟩ = some (.string x.s) ∧ w.cell? ⟨b, o + 1, none⟩ = some (.int .i64 x.c) ∧ w.cell? ⟨b, o + 2, none⟩ = some (.int .i64 x.r) ∧
  w.cell? ⟨b, o + 3, none⟩ = some (.int .i64 x.a1) ∧ w.cell? ⟨b, o + 4, none⟩ = some (.int .i64 x.b1) ∧ w.cell? ⟨b, o + 5, none⟩ = some (.int .i64 x.a2) ∧ w.cell? ⟨b, o + 6, none⟩ = some (.int .i64 x.b2) ∧
  w.cell? ⟨b, o + 7, none⟩ = some (.int .i64 x.a3) ∧ w.cell? ⟨b, o + 8, none⟩ = some (.int .i64 x.b3) ∧ w.cell? ⟨b, o + 9, none⟩ = some (.int .i64 x.a4) ∧ w.cell? ⟨b, o + 10, none⟩ = some (.int .i64 x.b4)

/-- a slice whose elements, sz cells each, are such; they lie in block z or behind it -/
def At (w : World) (z : Nat) (v : Value) (n sz : Nat) (E : Nat → Nat → Nat → Prop) : Prop :=
  ∃ (a : Option Addr) (cap : Nat), v = .slice a n cap ∧ n ≤ cap ∧ cap ≤ maxLen ∧ ∀ i, i < n → ∃ b off, a = some ⟨b, off, none⟩ ∧ b < w.heap.size ∧ z ≤ b ∧ E i b (off + i * sz)

def CellsAt (w : World) (z : Nat) (v : Value) (cs : List C) : Prop := At w z v cs.length 11 (fun i b o => CellIs w b o (cs.getD i dC) ∧ (cs.getD i dC).s.size ≤ maxLen)
def ColsAt (w : World) (z : Nat) (v : Value) (ps : List (Int × Int)) : Prop := At w z v ps.length 2 (fun i b o => w.cell? ⟨b, o, none⟩ = some (.int .i64 (ps.getD i (0, 0)).1) ∧ w.cell? ⟨b, o + 1, none⟩ = some (.int .i64 (ps.getD i (0, 0)).2))
def RowsAt (w : World) (z : Nat) (v : Value) (rs : List R) : Prop := At w z v rs.length 2 (fun i b o => ∃ u, w.cell? ⟨b, o, none⟩ = some u ∧ w.cell? ⟨b, o + 1, none⟩ = some (.bool (rs.getD i dR).whole) ∧ CellsAt w z u (rs.getD i dR).cells)
def TblAt (w : World) (z : Nat) (v : Value) (t : T) : Prop := ∃ vc vr, v = .agg #[vc, .int .i64 t.head, .int .i64 t.foot, vr, .int .i64 t.gap] ∧ ColsAt w z vc t.cols ∧ RowsAt w z vr t.rows

/-- what lies from block z on is as it was -/
structure Since (z : Nat) (w w' : World) : Prop where
  size : w.heap.size ≤ w'.heap.size
  block : ∀ k, z ≤ k → k < w.heap.size → w'.heap[k]? = w.heap[k]?
theorem Since.of_below {z : Nat} {w w' : World} (h : Below w.heap.size w w') : Since z w w' := ⟨h.size, fun k _ hk => h.block k hk⟩
theorem Since.refl (z : Nat) (w : World) : Since z w w := ⟨Nat.le_refl _, fun _ _ _ => rfl⟩
theorem Since.trans {z : Nat} {a b c : World} (h : Since z a b) (k : Since z b c) : Since z a c := ⟨Nat.le_trans h.size k.size, fun i h1 h2 => (k.block i h1 (Nat.lt_of_lt_of_le h2 h.size)).trans (h.block i h1 h2)⟩
theorem Since.set {z : Nat} {a w : World} (h : Since z a w) {p : Addr} (hp : p.block < z) (v : Value) : Since z a (w.setCell p v) :=
  ⟨by simpa [World.setCell] using h.size, fun k h1 h2 => (Below.heap_setCell _ _ _ _ (by omega)).trans (h.block k h1 h2)⟩
theorem Since.alloc {z : Nat} {a w : World} (h : Since z a w) (o : Obj) : Since z a (w.alloc o) := h.trans (Since.of_below (k_alloc (Below.refl _ _) _))
theorem Since.cell {z : Nat} {w w' : World} (h : Since z w w') {b : Nat} (h1 : z ≤ b) (h2 : b < w.heap.size) (p : Nat) : w'.cell? ⟨b, p, none⟩ = w.cell? ⟨b, p, none⟩ := World.cell?_of_block (w := w) (a := ⟨b, p, none⟩) (h.block b h1 h2)

theorem At.mono {w w' : World} {z z' : Nat} {v : Value} {n sz : Nat} {E E' : Nat → Nat → Nat → Prop} (h : At w z v n sz E) (hz : w.heap.size ≤ w'.heap.size) (hzz : z' ≤ z) (hE : ∀ i b o, i < n → b < w.heap.size → z ≤ b → E i b o → E' i b o) : At w' z' v n sz E' := by
  obtain ⟨a, cap, e, h1, h2, hx⟩ := h
  refine ⟨a, cap, e, h1, h2, fun i hi => ?_⟩
  obtain ⟨b, off, ea, hb, hzb, he⟩ := hx i hi
  exact ⟨b, off, ea, Nat.lt_of_lt_of_le hb hz, Nat.le_trans hzz hzb, hE i b _ hi hb hzb he⟩
theorem CellIs.since {w w' : World} {z b o : Nat} {x : C} (h : CellIs w b o x) (hb : b < w.heap.size) (hz : z ≤ b) (k : Since z w w') : CellIs w' b o x := by
  unfold CellIs at h ⊢
  simp only [k.cell hz hb]
  exact h
theorem CellsAt.since {w w' : World} {z : Nat} {v : Value} {cs : List C} (h : CellsAt w z v cs) (k : Since z w w') : CellsAt w' z v cs :=
  At.mono h k.size (Nat.le_refl _) (fun _ _ _ _ hb hz he => ⟨he.1.since hb hz k, he.2⟩)
theorem ColsAt.since {w w' : World} {z : Nat} {v : Value} {cs : List (Int × Int)} (h : ColsAt w z v cs) (k : Since z w w') : ColsAt w' z v cs :=
  At.mono h k.size (Nat.le_refl _) (fun _ _ _ _ hb hz he => ⟨(k.cell hz hb _).trans he.1, (k.cell hz hb _).trans he.2⟩)
theorem RowsAt.since {w w' : World} {z : Nat} {v : Value} {rs : List R} (h : RowsAt w z v rs) (k : Since z w w') : RowsAt w' z v rs :=
  At.mono h k.size (Nat.le_refl _) (fun _ _ _ _ hb hz ⟨u, h1, h2, h3⟩ => ⟨u, (k.cell hz hb _).trans h1, (k.cell hz hb _).trans h2, h3.since k⟩)
theorem TblAt.since {w w' : World} {z : Nat} {v : Value} {t : T} (h : TblAt w z v t) (k : Since z w w') : TblAt w' z v t := by
  obtain ⟨vc, vr, e, h1, h2⟩ := h
  exact ⟨vc, vr, e, h1.since k, h2.since k⟩
theorem CellsAt.kept {w w' : World} {z : Nat} {v : Value} {cs : List C} (h : CellsAt w z v cs) (k : Below w.heap.size w w') : CellsAt w' z v cs := h.since (.of_below k)
theorem ColsAt.kept {w w' : World} {z : Nat} {v : Value} {cs : List (Int × Int)} (h : ColsAt w z v cs) (k : Below w.heap.size w w') : ColsAt w' z v cs := h.since (.of_below k)
theorem RowsAt.kept {w w' : World} {z : Nat} {v : Value} {rs : List R} (h : RowsAt w z v rs) (k : Below w.heap.size w w') : RowsAt w' z v rs := h.since (.of_below k)
theorem TblAt.kept {w w' : World} {z : Nat} {v : Value} {t : T} (h : TblAt w z v t) (k : Below w.heap.size w w') : TblAt w' z v t := h.since (.of_below k)
theorem CellsAt.base {w : World} {z z' : Nat} {v : Value} {cs : List C} (h : CellsAt w z v cs) (hz : z' ≤ z) : CellsAt w z' v cs := At.mono h (Nat.le_refl _) hz (fun _ _ _ _ _ _ he => he)
theorem ColsAt.base {w : World} {z z' : Nat} {v : Value} {cs : List (Int × Int)} (h : ColsAt w z v cs) (hz : z' ≤ z) : ColsAt w z' v cs := At.mono h (Nat.le_refl _) hz (fun _ _ _ _ _ _ he => he)
theorem RowsAt.base {w : World} {z z' : Nat} {v : Value} {rs : List R} (h : RowsAt w z v rs) (hz : z' ≤ z) : RowsAt w z' v rs := At.mono h (Nat.le_refl _) hz (fun _ _ _ _ _ _ ⟨u, h1, h2, h3⟩ => ⟨u, h1, h2, h3.base hz⟩)
/-- The element at a place: for a walk. -/
theorem At.get {w : World} {z : Nat} {v : Value} {n sz : Nat} {E : Nat → Nat → Nat → Prop} (h : At w z v n sz E) {i : Nat} (hi : i < n) : ∃ b off cap, v = .slice (some ⟨b, off, none⟩) n cap ∧ n ≤ cap ∧ cap ≤ maxLen ∧ b < w.heap.size ∧ E i b (off + i * sz) := by
  obtain ⟨a, cap, e, h1, h2, hx⟩ := h
  obtain ⟨b, off, rfl, hb, _, he⟩ := hx i hi
  exact ⟨b, off, cap, e, h1, h2, hb, he⟩
theorem At.form {w : World} {z : Nat} {v : Value} {n sz : Nat} {E : Nat → Nat → Nat → Prop} (h : At w z v n sz E) : ∃ a cap, v = .slice a n cap ∧ n ≤ maxLen := by
  obtain ⟨a, cap, e, h1, h2, _⟩ := h
  exact ⟨a, cap, e, Nat.le_trans h1 h2⟩
theorem sum_take_succ {α : Type} (f : α → Nat) (l : List α) (k : Nat) (h : k < l.length) : ((l.take (k + 1)).map f).sum = ((l.take k).map f).sum + f l[k] := by
  rw [List.take_succ_eq_append_getElem h, List.map_append, List.sum_append]
  simp only [List.map_cons, List.map_nil, List.sum_cons, List.sum_nil, Nat.add_zero]
theorem sum_take_le {α : Type} (f : α → Nat) (l : List α) (k : Nat) : ((l.take k).map f).sum ≤ (l.map f).sum := by
  have h : (l.map f).sum = ((l.take k).map f).sum + ((l.drop k).map f).sum := by
    conv => lhs; rw [← List.take_append_drop k l, List.map_append, List.sum_append]
  omega

/-- how much cells, rows, a table are: as the laws count it -/
def totC : List C → Nat
  | [] => 0
  | x :: r => 1 + x.s.size + totC r
def totR : List R → Nat
  | [] => 0
  | x :: r => 1 + totC x.cells + totR r
def totT (t : T) : Nat := t.cols.length + totR t.rows
/-- the texts of the first k cells together -/
def szTo (cs : List C) (k : Nat) : Nat := ((cs.take k).map (fun x => x.s.size)).sum
theorem szTo_succ {cs : List C} {k : Nat} (h : k < cs.length) : szTo cs (k + 1) = szTo cs k + (cs.getD k dC).s.size := by
  have e : cs.getD k dC = cs[k] := by simp [List.getD, h]
  rw [e]
  exact sum_take_succ (fun x => x.s.size) cs k h
theorem totC_eq (cs : List C) : totC cs = cs.length + szTo cs cs.length := by
  unfold szTo
  rw [List.take_length]
  induction cs with
  | nil => rfl
  | cons x r ih => simp [totC] at ih ⊢; omega
def rwTo (rs : List R) (k : Nat) : Nat := ((rs.take k).map (fun x => totC x.cells)).sum
theorem rwTo_succ {rs : List R} {k : Nat} (h : k < rs.length) : rwTo rs (k + 1) = rwTo rs k + totC (rs.getD k dR).cells := by
  have e : rs.getD k dR = rs[k] := by simp [List.getD, h]
  rw [e]
  exact sum_take_succ (fun x => totC x.cells) rs k h
theorem totR_eq (rs : List R) : totR rs = rs.length + rwTo rs rs.length := by
  unfold rwTo
  rw [List.take_length]
  induction rs with
  | nil => rfl
  | cons x r ih => simp [totR] at ih ⊢; omega
theorem szTo_le (cs : List C) (k : Nat) : szTo cs k ≤ szTo cs cs.length := by
  have := sum_take_le (fun x : C => x.s.size) cs k
  unfold szTo
  rw [List.take_length]
  exact this
theorem rwTo_le (rs : List R) (k : Nat) : rwTo rs k ≤ rwTo rs rs.length := by
  have := sum_take_le (fun x : R => totC x.cells) rs k
  unfold rwTo
  rw [List.take_length]
  exact this
end Go.Proofs.Ytggmjiddadjilal
namespace Go.Proofs.Ytggmjiddadjilal
open Go.RowKit

/-- a cell at its place -/
structure GC where
  row : Int
  col : Int
  rows : Int
  cols : Int
  ins : Int
/-- a grid -/
structure G where
  rows : Int
  cols : Int
  cells : List GC
def dG : GC := ⟨0, 0, 0, 0, 0⟩
def I64 (n : Int) : Prop := -9223372036854775808 ≤ n ∧ n ≤ 9223372036854775807
def GOk (x : GC) : Prop := I64 x.row ∧ I64 x.col ∧ I64 x.rows ∧ I64 x.cols ∧ I64 x.ins
/-- the five cells of a cell from an address on -/
def GIs (w : World) (b o : Nat) (x : GC) : Prop :=
  w.cell? ⟨b, o, none⟩ = some (.int .i64 x.row) ∧ w.cell? ⟨b, o + 1, none⟩ = some (.int .i64 x.col) ∧ w.cell? ⟨b, o + 2, none⟩ = some (.int .i64 x.rows) ∧
  w.cell? ⟨b, o + 3, none⟩ = some (.int .i64 x.cols) ∧ w.cell? ⟨b, o + 4, none⟩ = some (.int .i64 x.ins)
def GsAt (w : World) (z : Nat) (v : Value) (gs : List GC) : Prop := At w z v gs.length 5 (fun i b o => GIs w b o (gs.getD i dG) ∧ GOk (gs.getD i dG))
def GrdAt (w : World) (z : Nat) (v : Value) (g : G) : Prop := ∃ vc, v = .agg #[.int .i64 g.rows, .int .i64 g.cols, vc] ∧ GsAt w z vc g.cells

theorem GIs.since {w w' : World} {z b o : Nat} {x : GC} (h : GIs w b o x) (hb : b < w.heap.size) (hz : z ≤ b) (k : Since z w w') : GIs w' b o x := by
  unfold GIs at h ⊢
  simp only [k.cell hz hb]
  exact h
theorem GsAt.since {w w' : World} {z : Nat} {v : Value} {gs : List GC} (h : GsAt w z v gs) (k : Since z w w') : GsAt w' z v gs :=
  At.mono h k.size (Nat.le_refl _) (fun _ _ _ _ hb hz he => ⟨he.1.since hb hz k, he.2⟩)
theorem GsAt.kept {w w' : World} {z : Nat} {v : Value} {gs : List GC} (h : GsAt w z v gs) (k : Below w.heap.size w w') : GsAt w' z v gs := h.since (.of_below k)
theorem GsAt.base {w : World} {z z' : Nat} {v : Value} {gs : List GC} (h : GsAt w z v gs) (hz : z' ≤ z) : GsAt w z' v gs := At.mono h (Nat.le_refl _) hz (fun _ _ _ _ _ _ he => he)

/-- the place of the first cell of a kind; -1, if there is none -/
def findTo (p : GC → Bool) (gs : List GC) : Int := match gs.findIdx? p with | some k => (k : Int) | none => -1
theorem findTo_hit {p : GC → Bool} {gs : List GC} {k : Nat} (hk : k < gs.length) (h : ∀ i, i < k → p (gs.getD i dG) = false) (hp : p (gs.getD k dG) = true) : findTo p gs = (k : Int) := by
  have e : gs.findIdx? p = some k := by
    rw [List.findIdx?_eq_some_iff_getElem]
    refine ⟨hk, by simpa [List.getD, hk] using hp, fun j hj => ?_⟩
    have := h j hj
    simpa [List.getD, Nat.lt_trans hj hk] using this
  rw [findTo, e]
theorem findTo_none {p : GC → Bool} {gs : List GC} (h : ∀ i, i < gs.length → p (gs.getD i dG) = false) : findTo p gs = -1 := by
  have e : gs.findIdx? p = none := by
    rw [List.findIdx?_eq_none_iff]
    intro x hx
    obtain ⟨i, hi, rfl⟩ := List.mem_iff_getElem.1 hx
    have := h i hi
    simpa [List.getD, hi] using this
  rw [findTo, e]
end Go.Proofs.Ytggmjiddadjilal
namespace Go.Proofs.Ytggmjiddadjilal
open Go.RowKit

theorem sizeSet (w : World) (p : Addr) (v : Value) : (w.setCell p v).heap.size = w.heap.size := by simp [World.setCell]
theorem newestB (w : World) (q : Obj) : (w.alloc q).heap[w.heap.size]? = some q := by show (w.heap.push q)[w.heap.size]? = _; simp
theorem cellB {w : World} {g p : Nat} {arr : Array Value} {t : TypeId} (h : w.heap[g]? = some (.cells arr t)) : w.cell? ⟨g, p, none⟩ = arr[p]? := Joins.cell_of_block h p
theorem someB {w : World} {g p : Nat} {arr : Array Value} {t : TypeId} (h : w.heap[g]? = some (.cells arr t)) (hp : p < arr.size) : ∃ v, w.cell? ⟨g, p, none⟩ = some v := ⟨_, (cellB h).trans (Array.getElem?_eq_getElem hp)⟩
theorem freeB {w : World} {g p : Nat} {arr : Array Value} {t : TypeId} (h : w.heap[g]? = some (.cells arr t)) : w.frozen? ⟨g, p, none⟩ = false := Joins.unfrozen_of_block h p
theorem setB {w : World} {g p : Nat} {arr : Array Value} {t : TypeId} (h : w.heap[g]? = some (.cells arr t)) (v : Value) : (w.setCell ⟨g, p, none⟩ v).heap[g]? = some (.cells (arr.setIfInBounds p v) t) := Joins.block_setCell h v
theorem two_next {arr : Array Value} {n k : Nat} (hs : arr.size = n * 2) (hk : k < n) (x y : Value) :
    (∀ p, p < k * 2 → ((arr.setIfInBounds (k * 2) x).setIfInBounds (k * 2 + 1) y)[p]? = arr[p]?) ∧ ((arr.setIfInBounds (k * 2) x).setIfInBounds (k * 2 + 1) y)[k * 2]? = some x ∧ ((arr.setIfInBounds (k * 2) x).setIfInBounds (k * 2 + 1) y)[k * 2 + 1]? = some y := by
  have eq : ∀ (A : Array Value) (i : Nat) (v : Value), i < A.size → (A.setIfInBounds i v)[i]? = some v := fun A i v hi => by simp [hi]
  refine ⟨fun p hp => ?_, ?_, ?_⟩
  · rw [Array.getElem?_setIfInBounds_ne (by omega), Array.getElem?_setIfInBounds_ne (by omega)]
  · rw [Array.getElem?_setIfInBounds_ne (by omega)]
    exact eq _ _ _ (by omega)
  · exact eq _ _ _ (by rw [Array.size_setIfInBounds]; omega)
/-- what is left of n behind m: -1, if that is less than nothing -/
def leftOf (n : Int) (m : Nat) : Int := if (m : Int) ≤ n then n - m else -1
theorem leftOf_pos {n : Int} {m : Nat} (h : (m : Int) ≤ n) : leftOf n m = n - m := by rw [leftOf, if_pos h]
theorem leftOf_neg {n : Int} {m : Nat} (h : ¬ (m : Int) ≤ n) : leftOf n m = -1 := by rw [leftOf, if_neg h]
theorem retI64 {a b : Int} (h : a = b) : Ending.returned (.int .i64 a) = .returned (.int .i64 b) := by rw [h]
end Go.Proofs.Ytggmjiddadjilal
namespace Go.Proofs.Ytggmjiddadjilal
open Go.RowKit

def inB (n lo hi : Int) : Bool := decide (lo ≤ n ∧ n ≤ hi)
theorem retB {a b : Bool} (h : a = b) : Ending.returned (.bool a) = .returned (.bool b) := by rw [h]
theorem inB_true {n lo hi : Int} (h1 : lo ≤ n) (h2 : n ≤ hi) : inB n lo hi = true := by simp [inB, h1, h2]
theorem inB_false {n lo hi : Int} (h : ¬ (lo ≤ n ∧ n ≤ hi)) : inB n lo hi = false := by simp only [inB, h, decide_false]
end Go.Proofs.Ytggmjiddadjilal
namespace Go.Proofs.Ytggmjiddadjilal
open Go.RowKit

theorem within_any (n lo hi : Int) (w : World) :
    Calls Try.prog 35 #[.int .i64 n, .int .i64 lo, .int .i64 hi] w fun e w' => e = .returned (.bool (inB n lo hi)) ∧ w' = w := by
  by_cases h1 : lo ≤ n
  · by_cases h2 : n ≤ hi
    · have HB : Hid (inB n lo hi = true) := inB_true h1 h2
      go_enter Try.func35, Try.ntmps35
      go_wp2
      go_ret
      exact ⟨retB HB.out.symm, rfl⟩
    · have HB : Hid (inB n lo hi = false) := inB_false (by omega)
      go_enter Try.func35, Try.ntmps35
      go_wp2
      go_ret
      exact ⟨retB HB.out.symm, rfl⟩
  · have HB : Hid (inB n lo hi = false) := inB_false (by omega)
    go_enter Try.func35, Try.ntmps35
    go_wp2
    go_ret
    exact ⟨retB HB.out.symm, rfl⟩

theorem l1In_any (n lo hi : Int) (w : World) :
    Calls Try.prog 33 #[.int .i64 n, .int .i64 lo, .int .i64 hi] w fun e w' => e = .returned (.bool (inB n lo hi)) ∧ w' = w := by
  by_cases h1 : lo ≤ n
  · by_cases h2 : n ≤ hi
    · have HB : Hid (inB n lo hi = true) := inB_true h1 h2
      go_enter Try.func33, Try.ntmps33
      go_wp2
      go_ret
      exact ⟨retB HB.out.symm, rfl⟩
    · have HB : Hid (inB n lo hi = false) := inB_false (by omega)
      go_enter Try.func33, Try.ntmps33
      go_wp2
      go_ret
      exact ⟨retB HB.out.symm, rfl⟩
  · have HB : Hid (inB n lo hi = false) := inB_false (by omega)
    go_enter Try.func33, Try.ntmps33
    go_wp2
    go_ret
    exact ⟨retB HB.out.symm, rfl⟩
end Go.Proofs.Ytggmjiddadjilal
namespace Go.Proofs.Ytggmjiddadjilal
open Go.RowKit

def boundsB (R C : Int) (n : Nat) : Bool := inB R 1 8 && (inB C 1 94 && decide (n ≤ 40))
def fitsB (R C : Int) (x : GC) : Bool := inB x.row 0 (R - 1) && (inB x.rows 1 (R - x.row) && (inB x.col 0 (C - 1) && (inB x.cols 1 (C - x.col) && inB x.ins 0 4)))
def meetsB (a b : GC) : Bool := decide (a.row < b.row + b.rows) && (decide (b.row < a.row + a.rows) && (decide (a.col < b.col + b.cols) && decide (b.col < a.col + a.cols)))
def freeG (xs : List GC) (x : GC) : Bool := xs.all fun a => !meetsB a x
def okTo (R C : Int) (gs : List GC) (k : Nat) : Bool := (List.range k).all fun i => fitsB R C (gs.getD i dG) && freeG (gs.take i) (gs.getD i dG)
def okB (g : G) : Bool := boundsB g.rows g.cols g.cells.length && okTo g.rows g.cols g.cells g.cells.length
theorem okTo_zero (R C : Int) (gs : List GC) : okTo R C gs 0 = true := rfl
theorem okTo_succ {R C : Int} {gs : List GC} {k : Nat} (h : okTo R C gs k = true) (h1 : fitsB R C (gs.getD k dG) = true) (h2 : freeG (gs.take k) (gs.getD k dG) = true) : okTo R C gs (k + 1) = true := by
  unfold okTo at h ⊢
  rw [List.range_succ, List.all_append, h]
  simp only [List.all_cons, h1, h2, List.all_nil, Bool.and_self]
theorem okTo_false {R C : Int} {gs : List GC} {k n : Nat} (hk : k < n) (h : (fitsB R C (gs.getD k dG) && freeG (gs.take k) (gs.getD k dG)) = false) : okTo R C gs n = false := by
  cases h2 : okTo R C gs n with
  | false => rfl
  | true => rw [List.all_eq_true.1 h2 k (List.mem_range.2 hk)] at h; cases h
theorem okB_false1 {g : G} (h : boundsB g.rows g.cols g.cells.length = false) : okB g = false := by simp only [okB, h, Bool.false_and]
theorem okB_false2 {g : G} (h : okTo g.rows g.cols g.cells g.cells.length = false) : okB g = false := by simp only [okB, h, Bool.and_false]
theorem bounds_of {R C : Int} {n : Nat} (h : boundsB R C n = true) : 1 ≤ R ∧ R ≤ 8 ∧ 1 ≤ C ∧ C ≤ 94 ∧ n ≤ 40 := by
  simp [boundsB, inB] at h
  omega
theorem bounds_intro {R C : Int} {n : Nat} (h1 : inB R 1 8 = true) (h2 : inB C 1 94 = true) (h3 : n ≤ 40) : boundsB R C n = true := by simp [boundsB, h1, h2, h3]
/-- a cell that fits, in plain numbers -/
def Fit5 (R C : Int) (x : GC) (r c rs cs : Nat) : Prop := x.row = r ∧ x.col = c ∧ x.rows = rs ∧ x.cols = cs ∧ 1 ≤ rs ∧ 1 ≤ cs ∧ ((r + rs : Nat) : Int) ≤ R ∧ ((c + cs : Nat) : Int) ≤ C
theorem fits_of {R C : Int} {x : GC} (h : fitsB R C x = true) : Fit5 R C x x.row.toNat x.col.toNat x.rows.toNat x.cols.toNat := by
  simp [fitsB, inB] at h
  unfold Fit5
  omega
def slotsG (x : GC) : List Sl := rowsSl x.row.toNat x.col.toNat x.cols.toNat x.rows.toNat
/-- the slots of cells -/
def takenBy (gs : List GC) : List (Nat × Nat) := (gs.flatMap slotsG).map (·.1)
theorem takenBy_nil : takenBy [] = [] := rfl
theorem takenBy_snoc (gs : List GC) (x : GC) : takenBy (gs ++ [x]) = takenBy gs ++ (slotsG x).map (·.1) := by simp [takenBy]
theorem mem_rowsSl {r c rs cs : Nat} (hr : r + rs ≤ 1000) (hc : c + cs ≤ 1000) (y : Nat × Nat) : y ∈ (rowsSl r c cs rs).map (·.1) ↔ (r ≤ y.1 ∧ y.1 < r + rs) ∧ c ≤ y.2 ∧ y.2 < c + cs := by
  simp only [rowsSl, rowSl, List.mem_map, List.mem_flatMap, List.mem_range]
  constructor
  · rintro ⟨z, ⟨i, hi, j, hj, rfl⟩, rfl⟩
    rw [toSl_val (by omega)]
    dsimp only
    omega
  · rintro ⟨⟨h1, h2⟩, h3, h4⟩
    refine ⟨toSl (r + (y.1 - r)) (c + (y.2 - c)), ⟨y.1 - r, by omega, y.2 - c, by omega, rfl⟩, ?_⟩
    rw [toSl_val (by omega)]
    exact Prod.ext (by dsimp only; omega) (by dsimp only; omega)
theorem mem_slotsG {R C : Int} {x : GC} (h : fitsB R C x = true) (hR : R ≤ 8) (hC : C ≤ 94) (y : Nat × Nat) : y ∈ (slotsG x).map (·.1) ↔ (x.row ≤ y.1 ∧ (y.1 : Int) < x.row + x.rows) ∧ x.col ≤ y.2 ∧ (y.2 : Int) < x.col + x.cols := by
  obtain ⟨e1, e2, e3, e4, h1, h2, h3, h4⟩ := fits_of h
  unfold slotsG
  rw [mem_rowsSl (by omega) (by omega)]
  omega
/-- cells meet just if they have a slot in common -/
theorem meets_iff {R C : Int} {a x : GC} (ha : fitsB R C a = true) (hx : fitsB R C x = true) (hR : R ≤ 8) (hC : C ≤ 94) : meetsB a x = true ↔ ∃ y, y ∈ (slotsG a).map (·.1) ∧ y ∈ (slotsG x).map (·.1) := by
  obtain ⟨a1, a2, a3, a4, a5, a6, a7, a8⟩ := fits_of ha
  obtain ⟨x1, x2, x3, x4, x5, x6, x7, x8⟩ := fits_of hx
  have e : meetsB a x = true ↔ a.row < x.row + x.rows ∧ x.row < a.row + a.rows ∧ a.col < x.col + x.cols ∧ x.col < a.col + a.cols := by simp [meetsB]
  rw [e]
  constructor
  · rintro ⟨h1, h2, h3, h4⟩
    refine ⟨(max a.row.toNat x.row.toNat, max a.col.toNat x.col.toNat), (mem_slotsG ha hR hC _).2 ?_, (mem_slotsG hx hR hC _).2 ?_⟩
    · dsimp only; omega
    · dsimp only; omega
  · rintro ⟨y, h1, h2⟩
    have k1 := (mem_slotsG ha hR hC _).1 h1
    have k2 := (mem_slotsG hx hR hC _).1 h2
    omega
theorem free_eq {R C : Int} {gs : List GC} {x : GC} (hg : ∀ a ∈ gs, fitsB R C a = true) (hx : fitsB R C x = true) (hR : R ≤ 8) (hC : C ≤ 94) : freeIn (takenBy gs) x.row.toNat x.col.toNat x.rows.toNat x.cols.toNat = freeG gs x := by
  rw [Bool.eq_iff_iff]
  unfold freeIn freeG
  rw [List.all_eq_true, List.all_eq_true]
  constructor
  · intro h a ha
    cases hm : meetsB a x with
    | false => rfl
    | true =>
      obtain ⟨y, h1, h2⟩ := (meets_iff (hg a ha) hx hR hC).1 hm
      obtain ⟨z, hz, rfl⟩ := List.mem_map.1 h2
      have := of_decide_eq_true (h z hz)
      refine absurd ?_ this
      obtain ⟨u, hu, e⟩ := List.mem_map.1 h1
      exact List.mem_map.2 ⟨u, List.mem_flatMap.2 ⟨a, ha, hu⟩, e⟩
  · intro h z hz
    refine decide_eq_true (fun hm => ?_)
    obtain ⟨u, hu, e⟩ := List.mem_map.1 hm
    obtain ⟨a, ha, hua⟩ := List.mem_flatMap.1 hu
    have := h a ha
    rw [(meets_iff (hg a ha) hx hR hC).2 ⟨z.1, List.mem_map.2 ⟨u, hua, e⟩, List.mem_map.2 ⟨z, hz, rfl⟩⟩] at this
    cases this
theorem okTo_fits {R C : Int} {gs : List GC} {k : Nat} (hk : k ≤ gs.length) (h : okTo R C gs k = true) : ∀ a ∈ gs.take k, fitsB R C a = true := by
  intro a ha
  obtain ⟨i, hi, rfl⟩ := List.mem_iff_getElem.1 ha
  rw [List.length_take] at hi
  have := List.all_eq_true.1 h i (List.mem_range.2 (by omega))
  rw [Bool.and_eq_true] at this
  have e : gs.getD i dG = (gs.take k)[i] := by simp [List.getD, show i < gs.length by omega]
  rw [← e]
  exact this.1
theorem rowSl_len (r c a : Nat) : (rowSl r c a).length = a := by simp [rowSl]
theorem rowsSl_len (r c cs d : Nat) : (rowsSl r c cs d).length = d * cs := by
  induction d with
  | zero => simp [rowsSl]
  | succ d ih => rw [rowsSl_succ, List.length_append, ih, rowSl_len, Nat.succ_mul]
theorem slotsG_len {R C : Int} {x : GC} (h : fitsB R C x = true) (hR : R ≤ 8) (hC : C ≤ 94) : (slotsG x).length ≤ 752 := by
  obtain ⟨e1, e2, e3, e4, h1, h2, h3, h4⟩ := fits_of h
  unfold slotsG
  rw [rowsSl_len]
  have a1 : x.rows.toNat ≤ 8 := by omega
  have a2 : x.cols.toNat ≤ 94 := by omega
  exact Nat.mul_le_mul a1 a2
theorem takenBy_len {R C : Int} (hR : R ≤ 8) (hC : C ≤ 94) : ∀ (gs : List GC), (∀ a ∈ gs, fitsB R C a = true) → (takenBy gs).length ≤ gs.length * 752
  | [], _ => by simp [takenBy]
  | a :: t, h => by
    have h1 := slotsG_len (h a (by simp)) hR hC
    have h2 := takenBy_len hR hC t (fun b hb => h b (by simp [hb]))
    simp only [takenBy, List.length_map, List.flatMap_cons, List.length_append, List.length_cons] at h2 ⊢
    omega
end Go.Proofs.Ytggmjiddadjilal
