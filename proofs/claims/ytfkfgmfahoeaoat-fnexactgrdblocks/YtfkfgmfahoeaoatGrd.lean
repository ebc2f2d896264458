/-
  PROVED HERE: what a grid is in memory, for the other texts of this claim: its cells, each in its place; it stays where what was in memory stays; where a grid of package laws can be read it lies so; the first cell of a kind.
-/
import Derived.Test.YtfkfgmfahoeaoatOpenAt
namespace Go.Proofs.Ytfkfgmfahoeaoat
open Go.RowKit Go.ChangeShapes Go.Deep

/-- a cell at its place -/
structure GC where
  row : Int
  col : Int
  rows : Int
  cols : Int
  ins : Int
/-- a grid -/
structure G where
  rows : Int
  cols : Int
  cells : List GC
def dG : GC := ⟨0, 0, 0, 0, 0⟩
def I64 (n : Int) : Prop := -9223372036854775808 ≤ n ∧ n ≤ 9223372036854775807
def GOk (x : GC) : Prop := I64 x.row ∧ I64 x.col ∧ I64 x.rows ∧ I64 x.cols ∧ I64 x.ins
/-- the five cells of a cell from an address on -/
def GIs (w : World) (b o : Nat) (x : GC) : Prop :=
  w.cell? ⟨b, o, none⟩ = some (.int .i64 x.row) ∧ w.cell? ⟨b, o + 1, none⟩ = some (.int .i64 x.col) ∧ w.cell? ⟨b, o + 2, none⟩ = some (.int .i64 x.rows) ∧
  w.cell? ⟨b, o + 3, none⟩ = some (.int .i64 x.cols) ∧ w.cell? ⟨b, o + 4, none⟩ = some (.int .i64 x.ins)
def GsAt (w : World) (z : Nat) (v : Value) (gs : List GC) : Prop := At w z v gs.length 5 (fun i b o => GIs w b o (gs.getD i dG) ∧ GOk (gs.getD i dG))
def GrdAt (w : World) (z : Nat) (v : Value) (g : G) : Prop := ∃ vc, v = .agg #[.int .i64 g.rows, .int .i64 g.cols, vc] ∧ GsAt w z vc g.cells

theorem GIs.since {w w' : World} {z b o : Nat} {x : GC} (h : GIs w b o x) (hb : b < w.heap.size) (hz : z ≤ b) (k : Since z w w') : GIs w' b o x := by
  unfold GIs at h ⊢
  simp only [k.cell hz hb]
  exact h
theorem GsAt.since {w w' : World} {z : Nat} {v : Value} {gs : List GC} (h : GsAt w z v gs) (k : Since z w w') : GsAt w' z v gs :=
  At.mono h k.size (Nat.le_refl _) (fun _ _ _ _ hb hz he => ⟨he.1.since hb hz k, he.2⟩)
theorem GsAt.kept {w w' : World} {z : Nat} {v : Value} {gs : List GC} (h : GsAt w z v gs) (k : Below w.heap.size w w') : GsAt w' z v gs := h.since (.of_below k)
theorem GsAt.base {w : World} {z z' : Nat} {v : Value} {gs : List GC} (h : GsAt w z v gs) (hz : z' ≤ z) : GsAt w z' v gs := At.mono h (Nat.le_refl _) hz (fun _ _ _ _ _ _ he => he)

/-- the place of the first cell of a kind; -1, if there is none -/
def findTo (p : GC → Bool) (gs : List GC) : Int := match gs.findIdx? p with | some k => (k : Int) | none => -1
theorem findTo_hit {p : GC → Bool} {gs : List GC} {k : Nat} (hk : k < gs.length) (h : ∀ i, i < k → p (gs.getD i dG) = false) (hp : p (gs.getD k dG) = true) : findTo p gs = (k : Int) := by
  have e : gs.findIdx? p = some k := by
    rw [List.findIdx?_eq_some_iff_getElem]
    refine ⟨hk, by simpa [List.getD, hk] using hp, fun j hj => ?_⟩
    have := h j hj
    simpa [List.getD, Nat.lt_trans hj hk] using this
  rw [findTo, e]
theorem findTo_none {p : GC → Bool} {gs : List GC} (h : ∀ i, i < gs.length → p (gs.getD i dG) = false) : findTo p gs = -1 := by
  have e : gs.findIdx? p = none := by
    rw [List.findIdx?_eq_none_iff]
    intro x hx
    obtain ⟨i, hi, rfl⟩ := List.mem_iff_getElem.1 hx
    have := h i hi
    simpa [List.getD, hi] using this
  rw [findTo, e]

theorem cIntG : Try.prog.cellsOf 3 = 1 := by kernel_rfl
theorem cGC : Try.prog.cellsOf 55 = 5 := by kernel_rfl
theorem cSlG : Try.prog.cellsOf 22 = 1 := by kernel_rfl
theorem cGrd : Try.prog.cellsOf 24 = 3 := by kernel_rfl

section
variable {H : Type} {enc : TypeId × Value → H} {w : World} {spare : Nat → Bool} {held : Bool}

set_option maxRecDepth 100000 in
theorem openGsL {fuel : Nat} {cs : List Value} {x : DataW H × List MemPlace} (h : DataW.trod enc Try.prog w 0 spare held fuel 22 cs = some x) : ∃ (v : Value) (l : List GC), cs = [v] ∧ GsAt w 0 v l := by
  refine open_at (α := GC) dG Try.underlying22 cGC (by omega) (fun x b o => GIs w b o x ∧ GOk x) (fun n b o cs' y hy hc => ?_) h
  obtain ⟨xs, m, _, _, hl, hlen, hf⟩ := DataW.trod_struct Try.underlying55 hy
  rw [cGC] at hl
  simp at hlen
  match cs', hl with
  | [c0, c1, c2, c3, c4], _ =>
    obtain ⟨y0, k0⟩ := some_of (i := 0) hlen (by omega)
    obtain ⟨y1, k1⟩ := some_of (i := 1) hlen (by omega)
    obtain ⟨y2, k2⟩ := some_of (i := 2) hlen (by omega)
    obtain ⟨y3, k3⟩ := some_of (i := 3) hlen (by omega)
    obtain ⟨y4, k4⟩ := some_of (i := 4) hlen (by omega)
    have f0 := (hf 0 _ rfl).trans k0
    have f1 := (hf 1 _ rfl).trans k1
    have f2 := (hf 2 _ rfl).trans k2
    have f3 := (hf 3 _ rfl).trans k3
    have f4 := (hf 4 _ rfl).trans k4
    simp [cIntG] at f0 f1 f2 f3 f4
    obtain ⟨n0, e0, _, b0⟩ := DataW.trod_int Try.underlying3 f0
    obtain ⟨n1, e1, _, b1⟩ := DataW.trod_int Try.underlying3 f1
    obtain ⟨n2, e2, _, b2⟩ := DataW.trod_int Try.underlying3 f2
    obtain ⟨n3, e3, _, b3⟩ := DataW.trod_int Try.underlying3 f3
    obtain ⟨n4, e4, _, b4⟩ := DataW.trod_int Try.underlying3 f4
    simp at e0 e1 e2 e3 e4
    subst e0 e1 e2 e3 e4
    exact ⟨⟨n0, n1, n2, n3, n4⟩, ⟨hc 0 (by omega), hc 1 (by omega), hc 2 (by omega), hc 3 (by omega), hc 4 (by omega)⟩, bounds_i64 b0, bounds_i64 b1, bounds_i64 b2, bounds_i64 b3, bounds_i64 b4⟩

set_option maxRecDepth 100000 in
theorem openGrdL {fuel : Nat} {cs : List Value} {x : DataW H × List MemPlace} (h : DataW.trod enc Try.prog w 0 spare held fuel 24 cs = some x) : ∃ g : G, GrdAt w 0 (.agg cs.toArray) g ∧ I64 g.rows ∧ I64 g.cols := by
  obtain ⟨xs, n, _, _, hl, hlen, hf⟩ := DataW.trod_struct Try.underlying24 h
  rw [cGrd] at hl
  simp at hlen
  match cs, hl with
  | [c0, c1, c2], _ =>
    obtain ⟨y0, k0⟩ := some_of (i := 0) hlen (by omega)
    obtain ⟨y1, k1⟩ := some_of (i := 1) hlen (by omega)
    obtain ⟨y2, k2⟩ := some_of (i := 2) hlen (by omega)
    have f0 := (hf 0 _ rfl).trans k0
    have f1 := (hf 1 _ rfl).trans k1
    have f2 := (hf 2 _ rfl).trans k2
    simp [cIntG, cSlG] at f0 f1 f2
    obtain ⟨n0, e0, _, b0⟩ := DataW.trod_int Try.underlying3 f0
    obtain ⟨n1, e1, _, b1⟩ := DataW.trod_int Try.underlying3 f1
    obtain ⟨vc, lc, e2, hvc⟩ := openGsL f2
    simp at e0 e1 e2
    subst e0 e1 e2
    exact ⟨⟨n0, n1, lc⟩, ⟨c2, rfl, hvc⟩, bounds_i64 b0, bounds_i64 b1⟩
end
end Go.Proofs.Ytfkfgmfahoeaoat
