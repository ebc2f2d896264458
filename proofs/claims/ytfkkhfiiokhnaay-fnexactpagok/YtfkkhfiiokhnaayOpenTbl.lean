/-
  PROVED HERE: where a table of package laws can be read, it lies in memory as 'TblAt' says.
-/
import Derived.Test.YtfkkhfiiokhnaayOpenCell
import Derived.Test.YtfkkhfiiokhnaayTbl
import Derived.Test.YtfkkhfiiokhnaayOpenAt
import Derived.Deep.Slices
import Derived.WideShapes
namespace Go.Proofs.Ytfkkhfiiokhnaay
open Go.RowKit Go.ChangeShapes Go.Deep

theorem cBool : Try.prog.cellsOf 4 = 1 := by kernel_rfl
theorem cColL : Try.prog.cellsOf 83 = 2 := by kernel_rfl
theorem cRowL : Try.prog.cellsOf 70 = 2 := by kernel_rfl
theorem cSlC : Try.prog.cellsOf 68 = 1 := by kernel_rfl
theorem cSlK : Try.prog.cellsOf 22 = 1 := by kernel_rfl
theorem cSlR : Try.prog.cellsOf 23 = 1 := by kernel_rfl
theorem cTblL : Try.prog.cellsOf 25 = 5 := by kernel_rfl

section
variable {H : Type} {enc : TypeId × Value → H} {w : World} {spare : Nat → Bool} {held : Bool}

theorem openCellsL {fuel : Nat} {cs : List Value} {x : DataW H × List MemPlace} (h : DataW.trod enc Try.prog w 0 spare held fuel 68 cs = some x) : ∃ (v : Value) (l : List C), cs = [v] ∧ CellsAt w 0 v l := by
  refine open_at (α := C) dC Try.underlying68 cCellL (by omega) (fun x b o => CellIs w b o x ∧ x.s.size ≤ maxLen) (fun n b o cs' y hy hc => ?_) h
  obtain ⟨s, c, r, a1, b1, a2, b2, a3, b3, a4, b4, hs, rfl⟩ := openCellL hy
  exact ⟨⟨s, c, r, a1, b1, a2, b2, a3, b3, a4, b4⟩, ⟨hc 0 (by omega), hc 1 (by omega), hc 2 (by omega), hc 3 (by omega), hc 4 (by omega), hc 5 (by omega), hc 6 (by omega), hc 7 (by omega), hc 8 (by omega), hc 9 (by omega), hc 10 (by omega)⟩, hs⟩

set_option maxRecDepth 100000 in
theorem openColsL {fuel : Nat} {cs : List Value} {x : DataW H × List MemPlace} (h : DataW.trod enc Try.prog w 0 spare held fuel 22 cs = some x) : ∃ (v : Value) (l : List (Int × Int)), cs = [v] ∧ ColsAt w 0 v l := by
  refine open_at (α := Int × Int) (0, 0) Try.underlying22 cColL (by omega) (fun x b o => w.cell? ⟨b, o, none⟩ = some (.int .i64 x.1) ∧ w.cell? ⟨b, o + 1, none⟩ = some (.int .i64 x.2)) (fun n b o cs' y hy hc => ?_) h
  obtain ⟨y0, y1, m, _, hl, h0, h1⟩ := trod_struct2 Try.underlying83 hy
  rw [cColL] at hl
  match cs', hl with
  | [c0, c1], _ =>
    simp [cInt] at h0 h1
    obtain ⟨a, e0, _, _⟩ := DataW.trod_int Try.underlying3 h0
    obtain ⟨b', e1, _, _⟩ := DataW.trod_int Try.underlying3 h1
    simp at e0 e1
    subst e0 e1
    exact ⟨(a, b'), hc 0 (by omega), hc 1 (by omega)⟩

set_option maxRecDepth 100000 in
theorem openRowsL {fuel : Nat} {cs : List Value} {x : DataW H × List MemPlace} (h : DataW.trod enc Try.prog w 0 spare held fuel 23 cs = some x) : ∃ (v : Value) (l : List R), cs = [v] ∧ RowsAt w 0 v l := by
  refine open_at (α := R) dR Try.underlying23 cRowL (by omega) (fun x b o => ∃ u, w.cell? ⟨b, o, none⟩ = some u ∧ w.cell? ⟨b, o + 1, none⟩ = some (.bool x.whole) ∧ CellsAt w 0 u x.cells) (fun n b o cs' y hy hc => ?_) h
  obtain ⟨y0, y1, m, _, hl, h0, h1⟩ := trod_struct2 Try.underlying70 hy
  rw [cRowL] at hl
  match cs', hl with
  | [c0, c1], _ =>
    simp [cSlC, cBool] at h0 h1
    obtain ⟨v, l, e0, hv⟩ := openCellsL h0
    obtain ⟨q, e1, _⟩ := DataW.trod_bool Try.underlying4 h1
    simp at e0 e1
    subst e0 e1
    exact ⟨⟨l, q⟩, c0, hc 0 (by omega), hc 1 (by omega), hv⟩

set_option maxRecDepth 100000 in
theorem openTblL {fuel : Nat} {cs : List Value} {x : DataW H × List MemPlace} (h : DataW.trod enc Try.prog w 0 spare held fuel 25 cs = some x) : ∃ t : T, TblAt w 0 (.agg cs.toArray) t := by
  obtain ⟨xs, n, _, _, hl, hlen, hf⟩ := DataW.trod_struct Try.underlying25 h
  rw [cTblL] at hl
  simp at hlen
  match cs, hl with
  | [c0, c1, c2, c3, c4], _ =>
    obtain ⟨y0, k0⟩ := some_of (i := 0) hlen (by omega)
    obtain ⟨y1, k1⟩ := some_of (i := 1) hlen (by omega)
    obtain ⟨y2, k2⟩ := some_of (i := 2) hlen (by omega)
    obtain ⟨y3, k3⟩ := some_of (i := 3) hlen (by omega)
    obtain ⟨y4, k4⟩ := some_of (i := 4) hlen (by omega)
    have f0 := (hf 0 _ rfl).trans k0
    have f1 := (hf 1 _ rfl).trans k1
    have f2 := (hf 2 _ rfl).trans k2
    have f3 := (hf 3 _ rfl).trans k3
    have f4 := (hf 4 _ rfl).trans k4
    simp [cInt, cSlK, cSlR] at f0 f1 f2 f3 f4
    obtain ⟨vc, lc, e0, hvc⟩ := openColsL f0
    obtain ⟨hd, e1, _, _⟩ := DataW.trod_int Try.underlying3 f1
    obtain ⟨ft, e2, _, _⟩ := DataW.trod_int Try.underlying3 f2
    obtain ⟨vr, lr, e3, hvr⟩ := openRowsL f3
    obtain ⟨gp, e4, _, _⟩ := DataW.trod_int Try.underlying3 f4
    simp at e0 e1 e2 e3 e4
    subst e0 e1 e2 e3 e4
    exact ⟨⟨lc, hd, ft, lr, gp⟩, c0, c3, rfl, hvc, hvr⟩
end
end Go.Proofs.Ytfkkhfiiokhnaay
