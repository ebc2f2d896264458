/-
  PROVED HERE: where pages, of package laws, can be read they are lists of slices, three numbers each.
-/
import Derived.Test.YtfkkhfiiokhnaayOpenAt
import Derived.Test.YtfkkhfiiokhnaayPagD
namespace Go.Proofs.Ytfkkhfiiokhnaay
open Go.RowKit Go.ChangeShapes Go.Deep

theorem cIntP : Try.prog.cellsOf 3 = 1 := by kernel_rfl
theorem cPS1 : Try.prog.cellsOf 64 = 3 := by kernel_rfl
section
variable {H : Type} {enc : TypeId × Value → H} {w : World} {spare : Nat → Bool} {held : Bool}
set_option maxRecDepth 100000 in
theorem openPsL {fuel : Nat} {cs : List Value} {x : DataW H × List MemPlace} (h : DataW.trod enc Try.prog w 0 spare held fuel 38 cs = some x) : ∃ (v : Value) (l : List PgS), cs = [v] ∧ PsAt w 0 v l := by
  refine open_at (α := PgS) dP Try.underlying38 cPS1 (by omega) (fun x b o => PIs w b o x) (fun n b o cs' y hy hc => ?_) h
  obtain ⟨xs, m, _, _, hl, hlen, hf⟩ := DataW.trod_struct Try.underlying64 hy
  rw [cPS1] at hl
  simp at hlen
  match cs', hl with
  | [c0, c1, c2], _ =>
    obtain ⟨y0, k0⟩ := some_of (i := 0) hlen (by omega)
    obtain ⟨y1, k1⟩ := some_of (i := 1) hlen (by omega)
    obtain ⟨y2, k2⟩ := some_of (i := 2) hlen (by omega)
    have f0 := (hf 0 _ rfl).trans k0
    have f1 := (hf 1 _ rfl).trans k1
    have f2 := (hf 2 _ rfl).trans k2
    simp [cIntP] at f0 f1 f2
    obtain ⟨n0, e0, _, _⟩ := DataW.trod_int Try.underlying3 f0
    obtain ⟨n1, e1, _, _⟩ := DataW.trod_int Try.underlying3 f1
    obtain ⟨n2, e2, _, _⟩ := DataW.trod_int Try.underlying3 f2
    simp at e0 e1 e2
    subst e0 e1 e2
    exact ⟨⟨n0, n1, n2⟩, hc 0 (by omega), hc 1 (by omega), hc 2 (by omega)⟩
end
end Go.Proofs.Ytfkkhfiiokhnaay
