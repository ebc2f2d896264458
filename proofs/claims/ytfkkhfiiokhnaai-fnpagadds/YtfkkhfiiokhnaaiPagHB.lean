/-
  PROVED HERE: how high slices are together, how many lines of a row are on pages, the first page that has a row: as functions of lists; sums wrap round.
-/
import Derived.Test.YtfkkhfiiokhnaaiPagD
import Derived.Test.YtfkkhfiiokhnaaiWidB
namespace Go.Proofs.Ytfkkhfiiokhnaai
open Go.RowKit

/-- the lines of the first k slices -/
def hiTo (ps : List PgS) : Nat → Int
  | 0 => 0
  | k + 1 => hiTo ps k + ((ps.getD k dP).t - (ps.getD k dP).f)
def highP (ps : List PgS) : Int := wrap64 (hiTo ps ps.length)
theorem hi_impl (ps : List PgS) (k : Nat) : wrap64 (wrap64 (hiTo ps k) + wrap64 ((ps.getD k dP).t - (ps.getD k dP).f)) = wrap64 (hiTo ps (k + 1)) := by rw [W_addl, W_addr, hiTo]
theorem hi_spec (ps : List PgS) (k : Nat) : wrap64 (wrap64 (wrap64 (hiTo ps k) + (ps.getD k dP).t) - (ps.getD k dP).f) = wrap64 (hiTo ps (k + 1)) := by rw [W_subl, hiTo]; simp only [W_eq]; omega
/-- of the first k slices the lines of a row -/
def rwP (ps : List PgS) (row : Int) : Nat → Int
  | 0 => 0
  | k + 1 => if (ps.getD k dP).r = row then rwP ps row k + ((ps.getD k dP).t - (ps.getD k dP).f) else rwP ps row k
/-- of the first k pages -/
def rwPs (pss : List (List PgS)) (row : Int) : Nat → Int
  | 0 => 0
  | k + 1 => rwPs pss row k + rwP (pss.getD k []) row (pss.getD k []).length
def rowP (pss : List (List PgS)) (row : Int) : Int := wrap64 (rwPs pss row pss.length)
theorem rw_impl {ps : List PgS} {row : Int} {k : Nat} (s : Int) (h : (ps.getD k dP).r = row) : wrap64 (wrap64 (s + rwP ps row k) + wrap64 ((ps.getD k dP).t - (ps.getD k dP).f)) = wrap64 (s + rwP ps row (k + 1)) := by
  rw [W_addl, W_addr, rwP, if_pos h]; congr 1; omega
theorem rw_spec {ps : List PgS} {row : Int} {k : Nat} (s : Int) (h : (ps.getD k dP).r = row) : wrap64 (wrap64 (wrap64 (s + rwP ps row k) + (ps.getD k dP).t) - (ps.getD k dP).f) = wrap64 (s + rwP ps row (k + 1)) := by
  rw [W_subl, rwP, if_pos h]; simp only [W_eq]; omega
theorem rw_not {ps : List PgS} {row : Int} {k : Nat} (h : ¬ (ps.getD k dP).r = row) : rwP ps row (k + 1) = rwP ps row k := by rw [rwP, if_neg h]
/-- whether a page has a slice of a row; the first one that has -/
def hasP (row : Int) (ps : List PgS) : Bool := ps.any (fun x => x.r == row)
def firstP (pss : List (List PgS)) (row : Int) : Int := match pss.findIdx? (hasP row) with | some k => (k : Int) | none => -1
theorem hasP_yes {row : Int} {ps : List PgS} {k : Nat} (hk : k < ps.length) (h : (ps.getD k dP).r = row) : hasP row ps = true := by
  rw [hasP, List.any_eq_true]
  exact ⟨ps[k], List.getElem_mem hk, by simpa [List.getD, hk] using h⟩
theorem hasP_no {row : Int} {ps : List PgS} (h : ∀ i, i < ps.length → ¬ (ps.getD i dP).r = row) : hasP row ps = false := by
  rw [hasP, List.any_eq_false]
  intro x hx
  obtain ⟨i, hi, rfl⟩ := List.mem_iff_getElem.1 hx
  have := h i hi
  simpa [List.getD, hi] using this
theorem firstP_hit {pss : List (List PgS)} {row : Int} {k : Nat} (hk : k < pss.length) (h : ∀ i, i < k → hasP row (pss.getD i []) = false) (hp : hasP row (pss.getD k []) = true) : firstP pss row = (k : Int) := by
  have e : pss.findIdx? (hasP row) = some k := by
    rw [List.findIdx?_eq_some_iff_getElem]
    refine ⟨hk, by simpa [List.getD, hk] using hp, fun j hj => ?_⟩
    have := h j hj
    simpa [List.getD, Nat.lt_trans hj hk] using this
  rw [firstP, e]
theorem firstP_none {pss : List (List PgS)} {row : Int} (h : ∀ i, i < pss.length → hasP row (pss.getD i []) = false) : firstP pss row = -1 := by
  have e : pss.findIdx? (hasP row) = none := by
    rw [List.findIdx?_eq_none_iff]
    intro x hx
    obtain ⟨i, hi, rfl⟩ := List.mem_iff_getElem.1 hx
    have := h i hi
    simpa [List.getD, hi] using this
  rw [firstP, e]
theorem less_next {P : Nat → Prop} {k : Nat} (h : ∀ i, i < k → P i) (hk : P k) : ∀ i, i < k + 1 → P i := fun i hi => by
  rcases Nat.lt_or_eq_of_le (Nat.lt_succ_iff.1 hi) with h1 | rfl
  · exact h i h1
  · exact hk
end Go.Proofs.Ytfkkhfiiokhnaai
