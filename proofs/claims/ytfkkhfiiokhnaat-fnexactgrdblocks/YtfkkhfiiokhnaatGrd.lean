/-
  PROVED HERE: where a grid of package laws can be read it lies in memory.
-/
import Derived.Test.YtfkkhfiiokhnaatOpenAt
import Derived.Test.YtfkkhfiiokhnaatGrdD
namespace Go.Proofs.Ytfkkhfiiokhnaat
open Go.RowKit Go.ChangeShapes Go.Deep

theorem cIntG : Try.prog.cellsOf 3 = 1 := by kernel_rfl
theorem cGC : Try.prog.cellsOf 54 = 5 := by kernel_rfl
theorem cSlG : Try.prog.cellsOf 22 = 1 := by kernel_rfl
theorem cGrd : Try.prog.cellsOf 24 = 3 := by kernel_rfl

section
variable {H : Type} {enc : TypeId × Value → H} {w : World} {spare : Nat → Bool} {held : Bool}

set_option maxRecDepth 100000 in
theorem openGsL {fuel : Nat} {cs : List Value} {x : DataW H × List MemPlace} (h : DataW.trod enc Try.prog w 0 spare held fuel 22 cs = some x) : ∃ (v : Value) (l : List GC), cs = [v] ∧ GsAt w 0 v l := by
  refine open_at (α := GC) dG Try.underlying22 cGC (by omega) (fun x b o => GIs w b o x ∧ GOk x) (fun n b o cs' y hy hc => ?_) h
  obtain ⟨xs, m, _, _, hl, hlen, hf⟩ := DataW.trod_struct Try.underlying54 hy
  rw [cGC] at hl
  simp at hlen
  match cs', hl with
  | [c0, c1, c2, c3, c4], _ =>
    obtain ⟨y0, k0⟩ := some_of (i := 0) hlen (by omega)
    obtain ⟨y1, k1⟩ := some_of (i := 1) hlen (by omega)
    obtain ⟨y2, k2⟩ := some_of (i := 2) hlen (by omega)
    obtain ⟨y3, k3⟩ := some_of (i := 3) hlen (by omega)
    obtain ⟨y4, k4⟩ := some_of (i := 4) hlen (by omega)
    have f0 := (hf 0 _ rfl).trans k0
    have f1 := (hf 1 _ rfl).trans k1
    have f2 := (hf 2 _ rfl).trans k2
    have f3 := (hf 3 _ rfl).trans k3
    have f4 := (hf 4 _ rfl).trans k4
    simp [cIntG] at f0 f1 f2 f3 f4
    obtain ⟨n0, e0, _, b0⟩ := DataW.trod_int Try.underlying3 f0
    obtain ⟨n1, e1, _, b1⟩ := DataW.trod_int Try.underlying3 f1
    obtain ⟨n2, e2, _, b2⟩ := DataW.trod_int Try.underlying3 f2
    obtain ⟨n3, e3, _, b3⟩ := DataW.trod_int Try.underlying3 f3
    obtain ⟨n4, e4, _, b4⟩ := DataW.trod_int Try.underlying3 f4
    simp at e0 e1 e2 e3 e4
    subst e0 e1 e2 e3 e4
    exact ⟨⟨n0, n1, n2, n3, n4⟩, ⟨hc 0 (by omega), hc 1 (by omega), hc 2 (by omega), hc 3 (by omega), hc 4 (by omega)⟩, bounds_i64 b0, bounds_i64 b1, bounds_i64 b2, bounds_i64 b3, bounds_i64 b4⟩

set_option maxRecDepth 100000 in
theorem openGrdL {fuel : Nat} {cs : List Value} {x : DataW H × List MemPlace} (h : DataW.trod enc Try.prog w 0 spare held fuel 24 cs = some x) : ∃ g : G, GrdAt w 0 (.agg cs.toArray) g ∧ I64 g.rows ∧ I64 g.cols := by
  obtain ⟨xs, n, _, _, hl, hlen, hf⟩ := DataW.trod_struct Try.underlying24 h
  rw [cGrd] at hl
  simp at hlen
  match cs, hl with
  | [c0, c1, c2], _ =>
    obtain ⟨y0, k0⟩ := some_of (i := 0) hlen (by omega)
    obtain ⟨y1, k1⟩ := some_of (i := 1) hlen (by omega)
    obtain ⟨y2, k2⟩ := some_of (i := 2) hlen (by omega)
    have f0 := (hf 0 _ rfl).trans k0
    have f1 := (hf 1 _ rfl).trans k1
    have f2 := (hf 2 _ rfl).trans k2
    simp [cIntG, cSlG] at f0 f1 f2
    obtain ⟨n0, e0, _, b0⟩ := DataW.trod_int Try.underlying3 f0
    obtain ⟨n1, e1, _, b1⟩ := DataW.trod_int Try.underlying3 f1
    obtain ⟨vc, lc, e2, hvc⟩ := openGsL f2
    simp at e0 e1 e2
    subst e0 e1 e2
    exact ⟨⟨n0, n1, lc⟩, ⟨c2, rfl, hvc⟩, bounds_i64 b0, bounds_i64 b1⟩
end
end Go.Proofs.Ytfkkhfiiokhnaat
