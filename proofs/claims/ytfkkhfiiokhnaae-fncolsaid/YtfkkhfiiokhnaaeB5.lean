/-
  PROVED HERE: what a table is in memory, for the other texts of this claim: cells, columns and rows, each in its place; it stays where what was in memory stays. Also: numbers between two others, as a Bool. Also: what the program's within and the model's l1In answer at every argument: the Bool 'inB'; nothing that was in memory is turned. Also: what a border that is ok is, as a Bool. Also: what a cell that is ok is, as a Bool. Also: what a column of which something may be said is, as a Bool. Also: what a table that is ok is, as a Bool. Also: what the program's BrdOk answers at every border. Also: what the program's CellOk answers at every cell whose text is a Go string. Also: what the program's columnOk answers at every column.
-/
import Derived.Test.YtfkkhfiiokhnaaeB1
import Derived.Test.YtfkkhfiiokhnaaeRows
import Derived.WalkKit
import Derived.ProofKit
import Derived.WalkLawsBesides
import Derived.WalkSpells
import Derived.Below
import Derived.Lib.SmallJoins
namespace Go.Proofs.Ytfkkhfiiokhnaae
open Go.RowKit

/-- a cell -/
structure C where
  s : ByteArray
  c : Int
  r : Int
  a1 : Int
  b1 : Int
  a2 : Int
  b2 : Int
  a3 : Int
  b3 : Int
  a4 : Int
  b4 : Int
/-- a row: its cells, whether it is whole -/
structure R where
  cells : List C
  whole : Bool
/-- a table -/
structure T where
  cols : List (Int × Int)
  head : Int
  foot : Int
  rows : List R
  gap : Int
/-- what stands where no cell, no row is -/
def dC : C := ⟨ByteArray.empty, 0, 0, 0, 0, 0, 0, 0, 0, 0, 0⟩
def dR : R := ⟨[], false⟩

/-- the eleven cells of a cell from an address on -/
def CellIs (w : World) (b o : Nat) (x : C) : Prop :=
  w.cell? ⟨b, o, none⟩ = some (.string x.s) ∧ w.cell? ⟨b, o + 1, none⟩ = some (.int .i64 x.c) ∧ w.cell? ⟨b, o + 2, none⟩ = some (.int .i64 x.r) ∧
  w.cell? ⟨b, o + 3, none⟩ = some (.int .i64 x.a1) ∧ w.cell? ⟨b, o + 4, none⟩ = some (.int .i64 x.b1) ∧ w.cell? ⟨b, o + 5, none⟩ = some (.int .i64 x.a2) ∧ w.cell? ⟨b, o + 6, none⟩ = some (.int .i64 x.b2) ∧
  w.cell? ⟨b, o + 7, none⟩ = some (.int .i64 x.a3) ∧ w.cell? ⟨b, o + 8, none⟩ = some (.int .i64 x.b3) ∧ w.cell? ⟨b, o + 9, none⟩ = some (.int .i64 x.a4) ∧ w.cell? ⟨b, o + 10, none⟩ = some (.int .i64 x.b4)

/-- a slice whose elements, sz cells each, are such; they lie in block z or behind it -/
def At (w : World) (z : Nat) (v : Value) (n sz : Nat) (E : Nat → Nat → Nat → Prop) : Prop :=
  ∃ (a : Option Addr) (cap : Nat), v = .slice a n cap ∧ n ≤ cap ∧ cap ≤ maxLen ∧ ∀ i, i < n → ∃ b off, a = some ⟨b, off, none⟩ ∧ b < w.heap.size ∧ z ≤ b ∧ E i b (off + i * sz)

def CellsAt (w : World) (z : Nat) (v : Value) (cs : List C) : Prop := At w z v cs.length 11 (fun i b o => CellIs w b o (cs.getD i dC) ∧ (cs.getD i dC).s.size ≤ maxLen)
def ColsAt (w : World) (z : Nat) (v : Value) (ps : List (Int × Int)) : Prop := At w z v ps.length 2 (fun i b o => w.cell? ⟨b, o, none⟩ = some (.int .i64 (ps.getD i (0, 0)).1) ∧ w.cell? ⟨b, o + 1, none⟩ = some (.int .i64 (ps.getD i (0, 0)).2))
def RowsAt (w : World) (z : Nat) (v : Value) (rs : List R) : Prop := At w z v rs.length 2 (fun i b o => ∃ u, w.cell? ⟨b, o, none⟩ = some u ∧ w.cell? ⟨b, o + 1, none⟩ = some (.bool (rs.getD i dR).whole) ∧ CellsAt w z u (rs.getD i dR).cells)
def TblAt (w : World) (z : Nat) (v : Value) (t : T) : Prop := ∃ vc vr, v = .agg #[vc, .int .i64 t.head, .int .i64 t.foot, vr, .int .i64 t.gap] ∧ ColsAt w z vc t.cols ∧ RowsAt w z vr t.rows

/-- what lies from block z on is as it was -/
structure Since (z : Nat) (w w' : World) : Prop where
  size : w.heap.size ≤ w'.heap.size
  block : ∀ k, z ≤ k → k < w.heap.size → w'.heap[k]? = w.heap[k]?
theorem Since.of_below {z : Nat} {w w' : World} (h : Below w.heap.size w w') : Since z w w' := ⟨h.size, fun k _ hk => h.block k hk⟩
theorem Since.refl (z : Nat) (w : World) : Since z w w := ⟨Nat.le_refl _, fun _ _ _ => rfl⟩
theorem Since.trans {z : Nat} {a b c : World} (h : Since z a b) (k : Since z b c) : Since z a c := ⟨Nat.le_trans h.size k.size, fun i h1 h2 => (k.block i h1 (Nat.lt_of_lt_of_le h2 h.size)).trans (h.block i h1 h2)⟩
theorem Since.set {z : Nat} {a w : World} (h : Since z a w) {p : Addr} (hp : p.block < z) (v : Value) : Since z a (w.setCell p v) :=
  ⟨by simpa [World.setCell] using h.size, fun k h1 h2 => (Below.heap_setCell _ _ _ _ (by omega)).trans (h.block k h1 h2)⟩
theorem Since.alloc {z : Nat} {a w : World} (h : Since z a w) (o : Obj) : Since z a (w.alloc o) := h.trans (Since.of_below (k_alloc (Below.refl _ _) _))
theorem Since.cell {z : Nat} {w w' : World} (h : Since z w w') {b : Nat} (h1 : z ≤ b) (h2 : b < w.heap.size) (p : Nat) : w'.cell? ⟨b, p, none⟩ = w.cell? ⟨b, p, none⟩ := World.cell?_of_block (w := w) (a := ⟨b, p, none⟩) (h.block b h1 h2)

theorem At.mono {w w' : World} {z z' : Nat} {v : Value} {n sz : Nat} {E E' : Nat → Nat → Nat → Prop} (h : At w z v n sz E) (hz : w.heap.size ≤ w'.heap.size) (hzz : z' ≤ z) (hE : ∀ i b o, i < n → b < w.heap.size → z ≤ b → E i b o → E' i b o) : At w' z' v n sz E' := by
  obtain ⟨a, cap, e, h1, h2, hx⟩ := h
  refine ⟨a, cap, e, h1, h2, fun i hi => ?_⟩
  obtain ⟨b, off, ea, hb, hzb, he⟩ := hx i hi
  exact ⟨b, off, ea, Nat.lt_of_lt_of_le hb hz, Nat.le_trans hzz hzb, hE i b _ hi hb hzb he⟩
theorem CellIs.since {w w' : World} {z b o : Nat} {x : C} (h : CellIs w b o x) (hb : b < w.heap.size) (hz : z ≤ b) (k : Since z w w') : CellIs w' b o x := by
  unfold CellIs at h ⊢
  simp only [k.cell hz hb]
  exact h
theorem CellsAt.since {w w' : World} {z : Nat} {v : Value} {cs : List C} (h : CellsAt w z v cs) (k : Since z w w') : CellsAt w' z v cs :=
  At.mono h k.size (Nat.le_refl _) (fun _ _ _ _ hb hz he => ⟨he.1.since hb hz k, he.2⟩)
theorem ColsAt.since {w w' : World} {z : Nat} {v : Value} {cs : List (Int × Int)} (h : ColsAt w z v cs) (k : Since z w w') : ColsAt w' z v cs :=
  At.mono h k.size (Nat.le_refl _) (fun _ _ _ _ hb hz he => ⟨(k.cell hz hb _).trans he.1, (k.cell hz hb _).trans he.2⟩)
theorem RowsAt.since {w w' : World} {z : Nat} {v : Value} {rs : List R} (h : RowsAt w z v rs) (k : Since z w w') : RowsAt w' z v rs :=
  At.mono h k.size (Nat.le_refl _) (fun _ _ _ _ hb hz ⟨u, h1, h2, h3⟩ => ⟨u, (k.cell hz hb _).trans h1, (k.cell hz hb _).trans h2, h3.since k⟩)
theorem TblAt.since {w w' : World} {z : Nat} {v : Value} {t : T} (h : TblAt w z v t) (k : Since z w w') : TblAt w' z v t := by
  obtain ⟨vc, vr, e, h1, h2⟩ := h
  exact ⟨vc, vr, e, h1.since k, h2.since k⟩
theorem CellsAt.kept {w w' : World} {z : Nat} {v : Value} {cs : List C} (h : CellsAt w z v cs) (k : Below w.heap.size w w') : CellsAt w' z v cs := h.since (.of_below k)
theorem ColsAt.kept {w w' : World} {z : Nat} {v : Value} {cs : List (Int × Int)} (h : ColsAt w z v cs) (k : Below w.heap.size w w') : ColsAt w' z v cs := h.since (.of_below k)
theorem RowsAt.kept {w w' : World} {z : Nat} {v : Value} {rs : List R} (h : RowsAt w z v rs) (k : Below w.heap.size w w') : RowsAt w' z v rs := h.since (.of_below k)
theorem TblAt.kept {w w' : World} {z : Nat} {v : Value} {t : T} (h : TblAt w z v t) (k : Below w.heap.size w w') : TblAt w' z v t := h.since (.of_below k)
theorem CellsAt.base {w : World} {z z' : Nat} {v : Value} {cs : List C} (h : CellsAt w z v cs) (hz : z' ≤ z) : CellsAt w z' v cs := At.mono h (Nat.le_refl _) hz (fun _ _ _ _ _ _ he => he)
theorem ColsAt.base {w : World} {z z' : Nat} {v : Value} {cs : List (Int × Int)} (h : ColsAt w z v cs) (hz : z' ≤ z) : ColsAt w z' v cs := At.mono h (Nat.le_refl _) hz (fun _ _ _ _ _ _ he => he)
theorem RowsAt.base {w : World} {z z' : Nat} {v : Value} {rs : List R} (h : RowsAt w z v rs) (hz : z' ≤ z) : RowsAt w z' v rs := At.mono h (Nat.le_refl _) hz (fun _ _ _ _ _ _ ⟨u, h1, h2, h3⟩ => ⟨u, h1, h2, h3.base hz⟩)
/-- The element at a place: for a walk. -/
theorem At.get {w : World} {z : Nat} {v : Value} {n sz : Nat} {E : Nat → Nat → Nat → Prop} (h : At w z v n sz E) {i : Nat} (hi : i < n) : ∃ b off cap, v = .slice (some ⟨b, off, none⟩) n cap ∧ n ≤ cap ∧ cap ≤ maxLen ∧ b < w.heap.size ∧ E i b (off + i * sz) := by
  obtain ⟨a, cap, e, h1, h2, hx⟩ := h
  obtain ⟨b, off, rfl, hb, _, he⟩ := hx i hi
  exact ⟨b, off, cap, e, h1, h2, hb, he⟩
theorem At.form {w : World} {z : Nat} {v : Value} {n sz : Nat} {E : Nat → Nat → Nat → Prop} (h : At w z v n sz E) : ∃ a cap, v = .slice a n cap ∧ n ≤ maxLen := by
  obtain ⟨a, cap, e, h1, h2, _⟩ := h
  exact ⟨a, cap, e, Nat.le_trans h1 h2⟩
theorem sum_take_succ {α : Type} (f : α → Nat) (l : List α) (k : Nat) (h : k < l.length) : ((l.take (k + 1)).map f).sum = ((l.take k).map f).sum + f l[k] := by
  rw [List.take_succ_eq_append_getElem h, List.map_append, List.sum_append]
  simp only [List.map_cons, List.map_nil, List.sum_cons, List.sum_nil, Nat.add_zero]
theorem sum_take_le {α : Type} (f : α → Nat) (l : List α) (k : Nat) : ((l.take k).map f).sum ≤ (l.map f).sum := by
  have h : (l.map f).sum = ((l.take k).map f).sum + ((l.drop k).map f).sum := by
    conv => lhs; rw [← List.take_append_drop k l, List.map_append, List.sum_append]
  omega

/-- how much cells, rows, a table are: as the laws count it -/
def totC : List C → Nat
  | [] => 0
  | x :: r => 1 + x.s.size + totC r
def totR : List R → Nat
  | [] => 0
  | x :: r => 1 + totC x.cells + totR r
def totT (t : T) : Nat := t.cols.length + totR t.rows
/-- the texts of the first k cells together -/
def szTo (cs : List C) (k : Nat) : Nat := ((cs.take k).map (fun x => x.s.size)).sum
theorem szTo_succ {cs : List C} {k : Nat} (h : k < cs.length) : szTo cs (k + 1) = szTo cs k + (cs.getD k dC).s.size := by
  have e : cs.getD k dC = cs[k] := by simp [List.getD, h]
  rw [e]
  exact sum_take_succ (fun x => x.s.size) cs k h
theorem totC_eq (cs : List C) : totC cs = cs.length + szTo cs cs.length := by
  unfold szTo
  rw [List.take_length]
  induction cs with
  | nil => rfl
  | cons x r ih => simp [totC] at ih ⊢; omega
def rwTo (rs : List R) (k : Nat) : Nat := ((rs.take k).map (fun x => totC x.cells)).sum
theorem rwTo_succ {rs : List R} {k : Nat} (h : k < rs.length) : rwTo rs (k + 1) = rwTo rs k + totC (rs.getD k dR).cells := by
  have e : rs.getD k dR = rs[k] := by simp [List.getD, h]
  rw [e]
  exact sum_take_succ (fun x => totC x.cells) rs k h
theorem totR_eq (rs : List R) : totR rs = rs.length + rwTo rs rs.length := by
  unfold rwTo
  rw [List.take_length]
  induction rs with
  | nil => rfl
  | cons x r ih => simp [totR] at ih ⊢; omega
theorem szTo_le (cs : List C) (k : Nat) : szTo cs k ≤ szTo cs cs.length := by
  have := sum_take_le (fun x : C => x.s.size) cs k
  unfold szTo
  rw [List.take_length]
  exact this
theorem rwTo_le (rs : List R) (k : Nat) : rwTo rs k ≤ rwTo rs rs.length := by
  have := sum_take_le (fun x : R => totC x.cells) rs k
  unfold rwTo
  rw [List.take_length]
  exact this
end Go.Proofs.Ytfkkhfiiokhnaae
namespace Go.Proofs.Ytfkkhfiiokhnaae
open Go.RowKit

def inB (n lo hi : Int) : Bool := decide (lo ≤ n ∧ n ≤ hi)
theorem retB {a b : Bool} (h : a = b) : Ending.returned (.bool a) = .returned (.bool b) := by rw [h]
theorem inB_true {n lo hi : Int} (h1 : lo ≤ n) (h2 : n ≤ hi) : inB n lo hi = true := by simp [inB, h1, h2]
theorem inB_false {n lo hi : Int} (h : ¬ (lo ≤ n ∧ n ≤ hi)) : inB n lo hi = false := by simp only [inB, h, decide_false]
end Go.Proofs.Ytfkkhfiiokhnaae
namespace Go.Proofs.Ytfkkhfiiokhnaae
open Go.RowKit

theorem within_any (n lo hi : Int) (w : World) :
    Calls Try.prog 47 #[.int .i64 n, .int .i64 lo, .int .i64 hi] w fun e w' => e = .returned (.bool (inB n lo hi)) ∧ w' = w := by
  by_cases h1 : lo ≤ n
  · by_cases h2 : n ≤ hi
    · have HB : Hid (inB n lo hi = true) := inB_true h1 h2
      go_enter Try.func47, Try.ntmps47
      go_wp2
      go_ret
      exact ⟨retB HB.out.symm, rfl⟩
    · have HB : Hid (inB n lo hi = false) := inB_false (by omega)
      go_enter Try.func47, Try.ntmps47
      go_wp2
      go_ret
      exact ⟨retB HB.out.symm, rfl⟩
  · have HB : Hid (inB n lo hi = false) := inB_false (by omega)
    go_enter Try.func47, Try.ntmps47
    go_wp2
    go_ret
    exact ⟨retB HB.out.symm, rfl⟩

theorem l1In_any (n lo hi : Int) (w : World) :
    Calls Try.prog 29 #[.int .i64 n, .int .i64 lo, .int .i64 hi] w fun e w' => e = .returned (.bool (inB n lo hi)) ∧ w' = w := by
  by_cases h1 : lo ≤ n
  · by_cases h2 : n ≤ hi
    · have HB : Hid (inB n lo hi = true) := inB_true h1 h2
      go_enter Try.func29, Try.ntmps29
      go_wp2
      go_ret
      exact ⟨retB HB.out.symm, rfl⟩
    · have HB : Hid (inB n lo hi = false) := inB_false (by omega)
      go_enter Try.func29, Try.ntmps29
      go_wp2
      go_ret
      exact ⟨retB HB.out.symm, rfl⟩
  · have HB : Hid (inB n lo hi = false) := inB_false (by omega)
    go_enter Try.func29, Try.ntmps29
    go_wp2
    go_ret
    exact ⟨retB HB.out.symm, rfl⟩
end Go.Proofs.Ytfkkhfiiokhnaae
namespace Go.Proofs.Ytfkkhfiiokhnaae
open Go.RowKit

def brdOkB (a b : Int) : Bool := decide ((a = 0 ∨ a = 4) ∧ b = 0 ∨ (1 ≤ a ∧ a ≤ 3) ∧ 1 ≤ b ∧ b ≤ 3)
theorem brd_zero (b : Int) : brdOkB 0 b = (b == 0) := by rw [Bool.eq_iff_iff]; simp [brdOkB]
theorem brd_four (b : Int) : brdOkB 4 b = (b == 0) := by rw [Bool.eq_iff_iff]; simp [brdOkB]; 
theorem brd_seen {a : Int} (b : Int) (h1 : 1 ≤ a) (h2 : a ≤ 3) : brdOkB a b = inB b 1 3 := by rw [Bool.eq_iff_iff]; simp [brdOkB, inB]; omega
theorem brd_other {a : Int} (b : Int) (h0 : a ≠ 0) (h4 : a ≠ 4) (h : ¬ (1 ≤ a ∧ a ≤ 3)) : brdOkB a b = false := by simp [brdOkB]; omega
end Go.Proofs.Ytfkkhfiiokhnaae
namespace Go.Proofs.Ytfkkhfiiokhnaae
open Go.RowKit

def cellOkB (s : ByteArray) (c r a1 b1 a2 b2 a3 b3 a4 b4 : Int) : Bool := txtOkB s && (inB c 1 4 && (inB r 1 4 && (brdOkB a1 b1 && (brdOkB a2 b2 && (brdOkB a3 b3 && brdOkB a4 b4)))))
theorem Hid.mk {p : Prop} (h : p) : Hid p := h
end Go.Proofs.Ytfkkhfiiokhnaae
namespace Go.Proofs.Ytfkkhfiiokhnaae
open Go.RowKit

def colB (k n : Int) : Bool := decide (k = 0 ∧ n = 0 ∨ k = 1 ∧ 0 ≤ n ∧ n ≤ 60 ∨ k = 2 ∧ 1 ≤ n ∧ n ≤ 100)
theorem colB_0 (n : Int) : colB 0 n = inB n 0 0 := by rw [Bool.eq_iff_iff]; simp [colB, inB]; omega
theorem colB_0' (n : Int) : colB 0 n = (n == 0) := by rw [Bool.eq_iff_iff]; simp [colB]
theorem colB_1 (n : Int) : colB 1 n = inB n 0 60 := by rw [Bool.eq_iff_iff]; simp [colB, inB]
theorem colB_2 (n : Int) : colB 2 n = inB n 1 100 := by rw [Bool.eq_iff_iff]; simp [colB, inB]
theorem colB_no {k : Int} (n : Int) (h0 : k ≠ 0) (h1 : k ≠ 1) (h2 : k ≠ 2) : colB k n = false := by simp [colB]; omega
end Go.Proofs.Ytfkkhfiiokhnaae
namespace Go.Proofs.Ytfkkhfiiokhnaae
open Go.RowKit

def cB (x : C) : Bool := cellOkB x.s x.c x.r x.a1 x.b1 x.a2 x.b2 x.a3 x.b3 x.a4 x.b4
def rowB (r : R) : Bool := decide (r.cells.length ≤ 5) && r.cells.all cB
def colsB (ps : List (Int × Int)) : Bool := decide (ps.length ≤ 8) && ps.all (fun p => colB p.1 p.2)
def partsB (n : Nat) (hd ft : Int) : Bool := inB hd 0 n && inB ft 0 (n - hd)
theorem all_true {α : Type} (d : α) (p : α → Bool) (l : List α) (h : ∀ j, j < l.length → p (l.getD j d) = true) : l.all p = true := by
  rw [List.all_eq_true]
  intro x hx
  obtain ⟨j, hj, rfl⟩ := List.getElem_of_mem hx
  have e : l.getD j d = l[j] := by simp [List.getD, hj]
  rw [← e]; exact h j hj
theorem all_false {α : Type} (d : α) (p : α → Bool) (l : List α) (k : Nat) (hk : k < l.length) (h : p (l.getD k d) = false) : l.all p = false := by
  have e : l.getD k d = l[k] := by simp [List.getD, hk]
  rw [e] at h
  cases hb : l.all p with
  | false => rfl
  | true => rw [List.all_eq_true.1 hb _ (List.getElem_mem hk)] at h; cases h
theorem next_true {α : Type} {d : α} {p : α → Bool} {l : List α} {k : Nat} (h : ∀ j, j < k → p (l.getD j d) = true) (hk : p (l.getD k d) = true) : ∀ j, j < k + 1 → p (l.getD j d) = true := by
  intro j hj
  rcases Nat.lt_or_eq_of_le (Nat.lt_succ_iff.1 hj) with h1 | h1
  · exact h j h1
  · rw [h1]; exact hk
def tblB (t : T) : Bool := inB t.rows.length 1 8 && (partsB t.rows.length t.head t.foot && (inB t.gap 0 3 && (colsB t.cols && t.rows.all rowB)))
theorem newestO (w : World) (q : Obj) : (w.alloc q).heap[w.heap.size]? = some q := by show (w.heap.push q)[w.heap.size]? = _; simp
theorem fiveO {w : World} {g : Nat} {x0 x1 x2 x3 x4 : Value} {t : TypeId} (h : w.heap[g]? = some (.cells #[x0, x1, x2, x3, x4] t)) :
    w.cell? ⟨g, 0, none⟩ = some x0 ∧ w.cell? ⟨g, 1, none⟩ = some x1 ∧ w.cell? ⟨g, 2, none⟩ = some x2 ∧ w.cell? ⟨g, 3, none⟩ = some x3 ∧ w.cell? ⟨g, 4, none⟩ = some x4 :=
  ⟨Joins.cell_of_block h 0, Joins.cell_of_block h 1, Joins.cell_of_block h 2, Joins.cell_of_block h 3, Joins.cell_of_block h 4⟩
end Go.Proofs.Ytfkkhfiiokhnaae
namespace Go.Proofs.Ytfkkhfiiokhnaae
open Go.RowKit

set_option maxRecDepth 100000 in
set_option maxHeartbeats 400000 in
theorem implBrdOk (a b : Int) (w : World) :
    Calls Try.prog 92 #[.agg #[.int .i64 a, .int .i64 b]] w fun e w' => e = .returned (.bool (brdOkB a b)) ∧ w' = w.alloc (.cells #[.int .i64 a, .int .i64 b] 62) := by
  by_cases h0 : a = 0
  · subst h0
    go_enter Try.func92, Try.ntmps92
    go_wp2
    go_ret
    exact ⟨retB (brd_zero b).symm, rfl⟩
  by_cases h4 : a = 4
  · subst h4
    go_enter Try.func92, Try.ntmps92
    go_wp2
    go_ret
    exact ⟨retB (brd_four b).symm, rfl⟩
  by_cases h1 : a = 1
  · subst h1
    go_enter Try.func92, Try.ntmps92
    go_wp2_with (go_at_call 47; refine (within_any _ _ _ _).mono ?_; rintro e w' ⟨rfl, rfl⟩)
    go_ret
    exact ⟨retB (brd_seen b (by omega) (by omega)).symm, rfl⟩
  by_cases h2 : a = 2
  · subst h2
    go_enter Try.func92, Try.ntmps92
    go_wp2_with (go_at_call 47; refine (within_any _ _ _ _).mono ?_; rintro e w' ⟨rfl, rfl⟩)
    go_ret
    exact ⟨retB (brd_seen b (by omega) (by omega)).symm, rfl⟩
  by_cases h3 : a = 3
  · subst h3
    go_enter Try.func92, Try.ntmps92
    go_wp2_with (go_at_call 47; refine (within_any _ _ _ _).mono ?_; rintro e w' ⟨rfl, rfl⟩)
    go_ret
    exact ⟨retB (brd_seen b (by omega) (by omega)).symm, rfl⟩
  have e0 : (a == 0) = false := beq_eq_false_iff_ne.2 h0
  have e1 : (a == 1) = false := beq_eq_false_iff_ne.2 h1
  have e2 : (a == 2) = false := beq_eq_false_iff_ne.2 h2
  have e3 : (a == 3) = false := beq_eq_false_iff_ne.2 h3
  have e4 : (a == 4) = false := beq_eq_false_iff_ne.2 h4
  have HB : Hid (brdOkB a b = false) := brd_other b h0 h4 (by omega)
  clear h0 h1 h2 h3 h4
  go_enter Try.func92, Try.ntmps92
  go_wp2
  go_ret
  exact ⟨retB HB.out.symm, rfl⟩
end Go.Proofs.Ytfkkhfiiokhnaae
namespace Go.Proofs.Ytfkkhfiiokhnaae
open Go.RowKit

set_option maxRecDepth 100000 in
set_option maxHeartbeats 1000000 in
theorem implCellOk (s : ByteArray) (c r a1 b1 a2 b2 a3 b3 a4 b4 : Int) (w : World) (hs : s.size ≤ maxLen) :
    Calls Try.prog 87 #[.agg #[.string s, .int .i64 c, .int .i64 r, .int .i64 a1, .int .i64 b1, .int .i64 a2, .int .i64 b2, .int .i64 a3, .int .i64 b3, .int .i64 a4, .int .i64 b4]] w fun e w' => e = .returned (.bool (cellOkB s c r a1 b1 a2 b2 a3 b3 a4 b4)) ∧ Below w.heap.size w w' := by
  cases h0 : txtOkB s
  ·
    as_aux_lemma =>
      have HB : Hid (cellOkB s c r a1 b1 a2 b2 a3 b3 a4 b4 = false) := Hid.mk (by simp [cellOkB, h0])
      go_enter Try.func87, Try.ntmps87
      go_wp2_with (first | (go_at_call 32; refine (implTxtOk _ _ hs).mono ?_; rintro e w' ⟨rfl, rfl⟩) | (go_at_call 47; refine (within_any _ _ _ _).mono ?_; rintro e w' ⟨rfl, rfl⟩) | (go_at_call 92; refine (implBrdOk _ _ _).mono ?_; rintro e w' ⟨rfl, rfl⟩))
      go_ret
      exact ⟨retB HB.out.symm, by repeat (first | exact Below.refl _ _ | apply k_alloc)⟩
  cases h1 : inB c 1 4
  ·
    as_aux_lemma =>
      have HB : Hid (cellOkB s c r a1 b1 a2 b2 a3 b3 a4 b4 = false) := Hid.mk (by simp [cellOkB, h0, h1])
      go_enter Try.func87, Try.ntmps87
      go_wp2_with (first | (go_at_call 32; refine (implTxtOk _ _ hs).mono ?_; rintro e w' ⟨rfl, rfl⟩) | (go_at_call 47; refine (within_any _ _ _ _).mono ?_; rintro e w' ⟨rfl, rfl⟩) | (go_at_call 92; refine (implBrdOk _ _ _).mono ?_; rintro e w' ⟨rfl, rfl⟩))
      go_ret
      exact ⟨retB HB.out.symm, by repeat (first | exact Below.refl _ _ | apply k_alloc)⟩
  cases h2 : inB r 1 4
  ·
    as_aux_lemma =>
      have HB : Hid (cellOkB s c r a1 b1 a2 b2 a3 b3 a4 b4 = false) := Hid.mk (by simp [cellOkB, h0, h1, h2])
      go_enter Try.func87, Try.ntmps87
      go_wp2_with (first | (go_at_call 32; refine (implTxtOk _ _ hs).mono ?_; rintro e w' ⟨rfl, rfl⟩) | (go_at_call 47; refine (within_any _ _ _ _).mono ?_; rintro e w' ⟨rfl, rfl⟩) | (go_at_call 92; refine (implBrdOk _ _ _).mono ?_; rintro e w' ⟨rfl, rfl⟩))
      go_ret
      exact ⟨retB HB.out.symm, by repeat (first | exact Below.refl _ _ | apply k_alloc)⟩
  cases h3 : brdOkB a1 b1
  ·
    as_aux_lemma =>
      have HB : Hid (cellOkB s c r a1 b1 a2 b2 a3 b3 a4 b4 = false) := Hid.mk (by simp [cellOkB, h0, h1, h2, h3])
      go_enter Try.func87, Try.ntmps87
      go_wp2_with (first | (go_at_call 32; refine (implTxtOk _ _ hs).mono ?_; rintro e w' ⟨rfl, rfl⟩) | (go_at_call 47; refine (within_any _ _ _ _).mono ?_; rintro e w' ⟨rfl, rfl⟩) | (go_at_call 92; refine (implBrdOk _ _ _).mono ?_; rintro e w' ⟨rfl, rfl⟩))
      go_ret
      exact ⟨retB HB.out.symm, by repeat (first | exact Below.refl _ _ | apply k_alloc)⟩
  cases h4 : brdOkB a2 b2
  ·
    as_aux_lemma =>
      have HB : Hid (cellOkB s c r a1 b1 a2 b2 a3 b3 a4 b4 = false) := Hid.mk (by simp [cellOkB, h0, h1, h2, h3, h4])
      go_enter Try.func87, Try.ntmps87
      go_wp2_with (first | (go_at_call 32; refine (implTxtOk _ _ hs).mono ?_; rintro e w' ⟨rfl, rfl⟩) | (go_at_call 47; refine (within_any _ _ _ _).mono ?_; rintro e w' ⟨rfl, rfl⟩) | (go_at_call 92; refine (implBrdOk _ _ _).mono ?_; rintro e w' ⟨rfl, rfl⟩))
      go_ret
      exact ⟨retB HB.out.symm, by repeat (first | exact Below.refl _ _ | apply k_alloc)⟩
  cases h5 : brdOkB a3 b3
  ·
    as_aux_lemma =>
      have HB : Hid (cellOkB s c r a1 b1 a2 b2 a3 b3 a4 b4 = false) := Hid.mk (by simp [cellOkB, h0, h1, h2, h3, h4, h5])
      go_enter Try.func87, Try.ntmps87
      go_wp2_with (first | (go_at_call 32; refine (implTxtOk _ _ hs).mono ?_; rintro e w' ⟨rfl, rfl⟩) | (go_at_call 47; refine (within_any _ _ _ _).mono ?_; rintro e w' ⟨rfl, rfl⟩) | (go_at_call 92; refine (implBrdOk _ _ _).mono ?_; rintro e w' ⟨rfl, rfl⟩))
      go_ret
      exact ⟨retB HB.out.symm, by repeat (first | exact Below.refl _ _ | apply k_alloc)⟩
  as_aux_lemma =>
    have HB : Hid (cellOkB s c r a1 b1 a2 b2 a3 b3 a4 b4 = brdOkB a4 b4) := Hid.mk (by simp [cellOkB, h0, h1, h2, h3, h4, h5])
    go_enter Try.func87, Try.ntmps87
    go_wp2_with (first | (go_at_call 32; refine (implTxtOk _ _ hs).mono ?_; rintro e w' ⟨rfl, rfl⟩) | (go_at_call 47; refine (within_any _ _ _ _).mono ?_; rintro e w' ⟨rfl, rfl⟩) | (go_at_call 92; refine (implBrdOk _ _ _).mono ?_; rintro e w' ⟨rfl, rfl⟩))
    go_ret
    exact ⟨retB HB.out.symm, by repeat (first | exact Below.refl _ _ | apply k_alloc)⟩
end Go.Proofs.Ytfkkhfiiokhnaae
namespace Go.Proofs.Ytfkkhfiiokhnaae
open Go.RowKit

theorem ta_auto_fixed (n : Int) (w : World) : (Instr.typeAssert (.iface 126 (.agg #[.int .i64 n])) 112 128 true).run Try.prog w = .ok (.tuple #[.agg #[.int .i64 0], .bool false]) w := by kernel_rfl
theorem ta_auto_part (n : Int) (w : World) : (Instr.typeAssert (.iface 126 (.agg #[.int .i64 n])) 112 130 true).run Try.prog w = .ok (.tuple #[.agg #[.int .i64 0], .bool false]) w := by kernel_rfl
theorem ta_fixed_fixed (n : Int) (w : World) : (Instr.typeAssert (.iface 128 (.agg #[.int .i64 n])) 112 128 true).run Try.prog w = .ok (.tuple #[.agg #[.int .i64 n], .bool true]) w := by kernel_rfl
theorem ta_fixed_part (n : Int) (w : World) : (Instr.typeAssert (.iface 128 (.agg #[.int .i64 n])) 112 130 true).run Try.prog w = .ok (.tuple #[.agg #[.int .i64 0], .bool false]) w := by kernel_rfl
theorem ta_part_fixed (n : Int) (w : World) : (Instr.typeAssert (.iface 130 (.agg #[.int .i64 n])) 112 128 true).run Try.prog w = .ok (.tuple #[.agg #[.int .i64 0], .bool false]) w := by kernel_rfl
theorem ta_part_part (n : Int) (w : World) : (Instr.typeAssert (.iface 130 (.agg #[.int .i64 n])) 112 130 true).run Try.prog w = .ok (.tuple #[.agg #[.int .i64 n], .bool true]) w := by kernel_rfl
theorem me_auto (n : Int) (w : World) : (method 259 126 (.agg #[.int .i64 n]) "loop.example/panework/impl.number").run Try.prog w = .ok (120, .agg #[.int .i64 n]) w := by kernel_rfl
theorem me_fixed (n : Int) (w : World) : (method 259 128 (.agg #[.int .i64 n]) "loop.example/panework/impl.number").run Try.prog w = .ok (121, .agg #[.int .i64 n]) w := by kernel_rfl
theorem me_part (n : Int) (w : World) : (method 259 130 (.agg #[.int .i64 n]) "loop.example/panework/impl.number").run Try.prog w = .ok (122, .agg #[.int .i64 n]) w := by kernel_rfl

set_option maxRecDepth 100000 in
set_option maxHeartbeats 1000000 in
theorem implColumnOk (k n : Int) (w : World) :
    Calls Try.prog 78 #[.agg #[.int .i64 k, .int .i64 n]] w fun e w' => e = .returned (.bool (colB k n)) ∧ Below w.heap.size w w' := by
  by_cases h0 : k = 0
  · subst h0
    have t1 := fun w => ta_auto_fixed n w
    have t2 := fun w => ta_auto_part n w
    have t3 := fun w => me_auto n w
    have HC := Hid.intro (colB_0 n)
    go_enter Try.func78, Try.ntmps78
    go_wp2_with (first | (go_at_call 47; refine (within_any _ _ _ _).mono ?_; rintro e w' ⟨rfl, rfl⟩) | go_in)
    go_ret
    exact ⟨retB HC.out.symm, by repeat (first | refine k_alloc ?_ _ | exact Below.refl _ _)⟩
  by_cases h1 : k = 1
  · subst h1
    have t1 := fun w => ta_fixed_fixed n w
    have t3 := fun w => me_fixed n w
    have HC := Hid.intro (colB_1 n)
    go_enter Try.func78, Try.ntmps78
    go_wp2_with (first | (go_at_call 47; refine (within_any _ _ _ _).mono ?_; rintro e w' ⟨rfl, rfl⟩) | go_in)
    go_ret
    exact ⟨retB HC.out.symm, by repeat (first | refine k_alloc ?_ _ | exact Below.refl _ _)⟩
  by_cases h2 : k = 2
  · subst h2
    have t1 := fun w => ta_part_fixed n w
    have t2 := fun w => ta_part_part n w
    have t3 := fun w => me_part n w
    have HC := Hid.intro (colB_2 n)
    go_enter Try.func78, Try.ntmps78
    go_wp2_with (first | (go_at_call 47; refine (within_any _ _ _ _).mono ?_; rintro e w' ⟨rfl, rfl⟩) | go_in)
    go_ret
    exact ⟨retB HC.out.symm, by repeat (first | refine k_alloc ?_ _ | exact Below.refl _ _)⟩
  have e0 : (k == 0) = false := beq_eq_false_iff_ne.2 h0
  have e1 : (k == 1) = false := beq_eq_false_iff_ne.2 h1
  have e2 : (k == 2) = false := beq_eq_false_iff_ne.2 h2
  have HC := Hid.intro (colB_no n h0 h1 h2)
  clear h0 h1 h2
  go_enter Try.func78, Try.ntmps78
  go_wp2
  go_ret
  exact ⟨retB HC.out.symm, by repeat (first | refine k_alloc ?_ _ | exact Below.refl _ _)⟩
end Go.Proofs.Ytfkkhfiiokhnaae
