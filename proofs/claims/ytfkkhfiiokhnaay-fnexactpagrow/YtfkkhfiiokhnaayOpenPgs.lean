/-
  PROVED HERE: where pages, of package laws, can be read they are lists of lists of slices.
-/
import Derived.Test.YtfkkhfiiokhnaayOpenPg
namespace Go.Proofs.Ytfkkhfiiokhnaay
open Go.RowKit Go.ChangeShapes Go.Deep

theorem cPSs : Try.prog.cellsOf 38 = 1 := by kernel_rfl
section
variable {H : Type} {enc : TypeId × Value → H} {w : World} {spare : Nat → Bool} {held : Bool}
set_option maxRecDepth 100000 in
theorem openPssL {fuel : Nat} {cs : List Value} {x : DataW H × List MemPlace} (h : DataW.trod enc Try.prog w 0 spare held fuel 45 cs = some x) : ∃ (v : Value) (l : List (List PgS)), cs = [v] ∧ PssAt w 0 v l := by
  refine open_at (α := List PgS) [] Try.underlying45 cPSs (by omega) (fun x b o => ∃ u, w.cell? ⟨b, o, none⟩ = some u ∧ PsAt w 0 u x) (fun n b o cs' y hy hc => ?_) h
  obtain ⟨v, l, e0, hv⟩ := openPsL hy
  subst e0
  exact ⟨l, v, hc 0 (by omega), hv⟩
end
end Go.Proofs.Ytfkkhfiiokhnaay
