/-
  PROVED HERE: where a cell at its place, of package laws, can be read it is five numbers.
-/
import Derived.Test.YtmdghonefdmihawOpenAt
import Derived.Test.YtmdghonefdmihawGrdD
namespace Go.Proofs.Ytmdghonefdmihaw
open Go.RowKit Go.ChangeShapes Go.Deep

theorem cIntC : Try.prog.cellsOf 3 = 1 := by kernel_rfl
theorem cGC1 : Try.prog.cellsOf 24 = 5 := by kernel_rfl
section
variable {H : Type} {enc : TypeId × Value → H} {w : World} {spare : Nat → Bool} {held : Bool}
set_option maxRecDepth 100000 in
theorem openGcL {fuel : Nat} {cs : List Value} {x : DataW H × List MemPlace} (h : DataW.trod enc Try.prog w 0 spare held fuel 24 cs = some x) : ∃ g : GC, cs = [.int .i64 g.row, .int .i64 g.col, .int .i64 g.rows, .int .i64 g.cols, .int .i64 g.ins] ∧ GOk g := by
  obtain ⟨xs, m, _, _, hl, hlen, hf⟩ := DataW.trod_struct Try.underlying24 h
  rw [cGC1] at hl
  simp at hlen
  match cs, hl with
  | [c0, c1, c2, c3, c4], _ =>
    obtain ⟨y0, k0⟩ := some_of (i := 0) hlen (by omega)
    obtain ⟨y1, k1⟩ := some_of (i := 1) hlen (by omega)
    obtain ⟨y2, k2⟩ := some_of (i := 2) hlen (by omega)
    obtain ⟨y3, k3⟩ := some_of (i := 3) hlen (by omega)
    obtain ⟨y4, k4⟩ := some_of (i := 4) hlen (by omega)
    have f0 := (hf 0 _ rfl).trans k0
    have f1 := (hf 1 _ rfl).trans k1
    have f2 := (hf 2 _ rfl).trans k2
    have f3 := (hf 3 _ rfl).trans k3
    have f4 := (hf 4 _ rfl).trans k4
    simp [cIntC] at f0 f1 f2 f3 f4
    obtain ⟨n0, e0, _, b0⟩ := DataW.trod_int Try.underlying3 f0
    obtain ⟨n1, e1, _, b1⟩ := DataW.trod_int Try.underlying3 f1
    obtain ⟨n2, e2, _, b2⟩ := DataW.trod_int Try.underlying3 f2
    obtain ⟨n3, e3, _, b3⟩ := DataW.trod_int Try.underlying3 f3
    obtain ⟨n4, e4, _, b4⟩ := DataW.trod_int Try.underlying3 f4
    simp at e0 e1 e2 e3 e4
    subst e0 e1 e2 e3 e4
    exact ⟨⟨n0, n1, n2, n3, n4⟩, rfl, bounds_i64 b0, bounds_i64 b1, bounds_i64 b2, bounds_i64 b3, bounds_i64 b4⟩
end
end Go.Proofs.Ytmdghonefdmihaw
