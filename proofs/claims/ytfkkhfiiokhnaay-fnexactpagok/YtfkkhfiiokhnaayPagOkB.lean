/-
  PROVED HERE: whether a table may be put on pages, as a Bool.
-/
import Derived.Test.YtfkkhfiiokhnaayTblB
import Derived.Test.YtfkkhfiiokhnaayIntB
namespace Go.Proofs.Ytfkkhfiiokhnaay
open Go.RowKit

/-- all heights may be -/
def hsB (hs : List Int) : Bool := hs.all (fun h => inB h 0 100)
def pagB (t : T) (width : Int) (hs : List Int) : Bool := (tblB t && inB width 0 300) && (inB hs.length 1 60 && hsB hs)
theorem hsB_no {hs : List Int} {k : Nat} (hk : k < hs.length) (h : inB (hs.getD k 0) 0 100 = false) : hsB hs = false := by
  rw [hsB, List.all_eq_false]
  refine ⟨hs[k], List.getElem_mem hk, ?_⟩
  have e : hs.getD k 0 = hs[k] := by simp [List.getD, hk]
  rw [e] at h
  simp [h]
theorem hsB_yes {hs : List Int} (h : ∀ i, i < hs.length → inB (hs.getD i 0) 0 100 = true) : hsB hs = true := by
  rw [hsB, List.all_eq_true]
  intro x hx
  obtain ⟨i, hi, rfl⟩ := List.mem_iff_getElem.1 hx
  have := h i hi
  simpa [List.getD, hi] using this
theorem hs_next {hs : List Int} {k : Nat} (h : ∀ i, i < k → inB (hs.getD i 0) 0 100 = true) (hk : inB (hs.getD k 0) 0 100 = true) : ∀ i, i < k + 1 → inB (hs.getD i 0) 0 100 = true := fun i hi => by
  rcases Nat.lt_or_eq_of_le (Nat.lt_succ_iff.1 hi) with h1 | rfl
  · exact h i h1
  · exact hk
end Go.Proofs.Ytfkkhfiiokhnaay
