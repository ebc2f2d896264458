/-
  PROVED HERE: what a border and a cell of package laws look like where they can be read: their cells, one by one.
-/
import Derived.Test.YtggmjiddadjilaqDoorOpenAt
import Derived.OpenShut
namespace Go.Proofs.YtggmjiddadjilaqDoor
open Go.RowKit Go.ChangeShapes

theorem cInt : Tryd.prog.cellsOf 3 = 1 := by kernel_rfl
theorem cStr : Tryd.prog.cellsOf 9 = 1 := by kernel_rfl
theorem cBrdL : Tryd.prog.cellsOf 23 = 2 := by kernel_rfl
theorem cCellL : Tryd.prog.cellsOf 25 = 11 := by kernel_rfl

section
variable {H : Type} {enc : TypeId × Value → H} {w : World} {base : Nat} {spare : Nat → Bool} {held : Bool}

set_option maxRecDepth 100000 in
theorem openBrdL {fuel : Nat} {cs : List Value} {x : DataW H × List MemPlace} (h : DataW.trod enc Tryd.prog w base spare held fuel 23 cs = some x) : ∃ a b : Int, cs = [.int .i64 a, .int .i64 b] := by
  obtain ⟨y0, y1, n, _, hl, h0, h1⟩ := trod_struct2 Tryd.underlying23 h
  rw [cBrdL] at hl
  match cs, hl with
  | [c0, c1], _ =>
    simp [cInt] at h0 h1
    obtain ⟨a, e0, _, _⟩ := DataW.trod_int Tryd.underlying3 h0
    obtain ⟨b, e1, _, _⟩ := DataW.trod_int Tryd.underlying3 h1
    simp at e0 e1
    exact ⟨a, b, by rw [e0, e1]⟩

set_option maxRecDepth 100000 in
theorem openCellL {fuel : Nat} {cs : List Value} {x : DataW H × List MemPlace} (h : DataW.trod enc Tryd.prog w base spare held fuel 25 cs = some x) :
    ∃ (s : ByteArray) (c r a1 b1 a2 b2 a3 b3 a4 b4 : Int), s.size ≤ maxLen ∧ cs = [.string s, .int .i64 c, .int .i64 r, .int .i64 a1, .int .i64 b1, .int .i64 a2, .int .i64 b2, .int .i64 a3, .int .i64 b3, .int .i64 a4, .int .i64 b4] := by
  obtain ⟨xs, n, _, _, hl, hlen, hf⟩ := DataW.trod_struct Tryd.underlying25 h
  rw [cCellL] at hl
  simp at hlen
  match cs, hl with
  | [c0, c1, c2, c3, c4, c5, c6, c7, c8, c9, c10], _ =>
    obtain ⟨y0, k0⟩ := some_of (i := 0) hlen (by omega)
    obtain ⟨y1, k1⟩ := some_of (i := 1) hlen (by omega)
    obtain ⟨y2, k2⟩ := some_of (i := 2) hlen (by omega)
    obtain ⟨y3, k3⟩ := some_of (i := 3) hlen (by omega)
    obtain ⟨y4, k4⟩ := some_of (i := 4) hlen (by omega)
    obtain ⟨y5, k5⟩ := some_of (i := 5) hlen (by omega)
    obtain ⟨y6, k6⟩ := some_of (i := 6) hlen (by omega)
    have f0 := (hf 0 _ rfl).trans k0
    have f1 := (hf 1 _ rfl).trans k1
    have f2 := (hf 2 _ rfl).trans k2
    have f3 := (hf 3 _ rfl).trans k3
    have f4 := (hf 4 _ rfl).trans k4
    have f5 := (hf 5 _ rfl).trans k5
    have f6 := (hf 6 _ rfl).trans k6
    simp [cInt, cStr, cBrdL] at f0 f1 f2 f3 f4 f5 f6
    obtain ⟨s, e0, _, hs⟩ := DataW.trod_string Tryd.underlying9 f0
    obtain ⟨c, e1, _, _⟩ := DataW.trod_int Tryd.underlying3 f1
    obtain ⟨r, e2, _, _⟩ := DataW.trod_int Tryd.underlying3 f2
    obtain ⟨a1, b1, e3⟩ := openBrdL f3
    obtain ⟨a2, b2, e4⟩ := openBrdL f4
    obtain ⟨a3, b3, e5⟩ := openBrdL f5
    obtain ⟨a4, b4, e6⟩ := openBrdL f6
    simp at e0 e1 e2 e3 e4 e5 e6
    exact ⟨s, c, r, a1, b1, a2, b2, a3, b3, a4, b4, hs, by rw [e0, e1, e2, e3.1, e3.2, e4.1, e4.2, e5.1, e5.2, e6.1, e6.2]⟩
end
end Go.Proofs.YtggmjiddadjilaqDoor
