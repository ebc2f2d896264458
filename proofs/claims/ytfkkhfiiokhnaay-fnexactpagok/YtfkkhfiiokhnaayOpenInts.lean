/-
  PROVED HERE: a list of numbers that can be read lies in memory as 'IntsAt' says.
-/
import Derived.Test.YtfkkhfiiokhnaayInts
import Derived.OpenShut
import Derived.WideShapes
namespace Go.Proofs.Ytfkkhfiiokhnaay
open Go.RowKit Go.ChangeShapes

theorem cInt : Try.prog.cellsOf 3 = 1 := by kernel_rfl
theorem cell_lt {w : World} {b o : Nat} {v : Value} (h : w.cell? ⟨b, o, none⟩ = some v) : b < w.heap.size := by
  rcases Nat.lt_or_ge b w.heap.size with hb | hb
  · exact hb
  · simp [World.cell?, Array.getElem?_eq_none hb] at h
theorem openInts {H : Type} {enc : TypeId × Value → H} {w : World} {spare : Nat → Bool} {held : Bool} {fuel : Nat} {cs : List Value} {x : DataW H × List MemPlace} (h : DataW.trod enc Try.prog w 0 spare held fuel 26 cs = some x) :
    ∃ (v : Value) (l : List Int), cs = [v] ∧ IntsAt w v l := by
  rcases open_ints Try.underlying26 Try.underlying3 cInt h with ⟨hcs, _⟩ | ⟨a, len, cap, zs, hcs, _, hl, hm, hz, _, hc, _⟩
  · exact ⟨_, [], hcs, none, 0, rfl, Nat.le_refl _, Nat.zero_le _, fun i hi => absurd hi (Nat.not_lt_zero _)⟩
  · have hle : len ≤ zs.length := by rw [hz]; split <;> omega
    have ht : (zs.take len).length = len := by rw [List.length_take]; omega
    refine ⟨_, zs.take len, hcs, some a, cap, by rw [ht], by rw [ht]; exact hl, hm, fun i hi => ?_⟩
    rw [ht] at hi
    obtain ⟨b, off, rfl, hcc⟩ := ints_at hc (by omega)
    have h0 := hcc i (by omega)
    exact ⟨b, off, rfl, cell_lt h0, by rw [h0]; simp [List.getD, hi]⟩
end Go.Proofs.Ytfkkhfiiokhnaay
