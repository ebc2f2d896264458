/-
  PROVED HERE: where borders, of package laws, can be read they are lists of them, three numbers each.
-/
import Derived.Test.YtfkkhfiiokhnaaxOpenAt
import Derived.Test.YtfkkhfiiokhnaaxBbB
namespace Go.Proofs.Ytfkkhfiiokhnaax
open Go.RowKit Go.ChangeShapes Go.Deep

theorem cIntF : Try.prog.cellsOf 3 = 1 := by kernel_rfl
theorem cFr1 : Try.prog.cellsOf 59 = 3 := by kernel_rfl
theorem cLn1 : Try.prog.cellsOf 23 = 2 := by kernel_rfl
section
variable {H : Type} {enc : TypeId × Value → H} {w : World} {spare : Nat → Bool} {held : Bool}
set_option maxRecDepth 100000 in
theorem openFrsL {fuel : Nat} {cs : List Value} {x : DataW H × List MemPlace} (h : DataW.trod enc Try.prog w 0 spare held fuel 28 cs = some x) : ∃ (v : Value) (l : List Fr), cs = [v] ∧ FrsAt w 0 v l := by
  refine open_at (α := Fr) dF Try.underlying28 cFr1 (by omega) (fun x b o => w.cell? ⟨b, o, none⟩ = some (.int .i64 x.s) ∧ w.cell? ⟨b, o + 1, none⟩ = some (.int .i64 x.w) ∧ w.cell? ⟨b, o + 2, none⟩ = some (.int .i64 x.c)) (fun n b o cs' y hy hc => ?_) h
  obtain ⟨xs, m, _, _, hl, hlen, hf⟩ := DataW.trod_struct Try.underlying59 hy
  rw [cFr1] at hl
  simp at hlen
  match cs', hl with
  | [c0, c1, c2], _ =>
    obtain ⟨y0, k0⟩ := some_of (i := 0) hlen (by omega)
    obtain ⟨y1, k1⟩ := some_of (i := 1) hlen (by omega)
    have f0 := (hf 0 _ rfl).trans k0
    have f1 := (hf 1 _ rfl).trans k1
    simp [cIntF, cLn1] at f0 f1
    obtain ⟨z0, z1, m', _, hl', g0, g1⟩ := trod_struct2 Try.underlying23 f0
    simp [cIntF] at g0 g1
    obtain ⟨n0, e0, _, _⟩ := DataW.trod_int Try.underlying3 g0
    obtain ⟨n1, e1, _, _⟩ := DataW.trod_int Try.underlying3 g1
    obtain ⟨n2, e2, _, _⟩ := DataW.trod_int Try.underlying3 f1
    simp at e0 e1 e2
    subst e0 e1 e2
    exact ⟨⟨n0, n1, n2⟩, hc 0 (by omega), hc 1 (by omega), hc 2 (by omega)⟩
end
end Go.Proofs.Ytfkkhfiiokhnaax
