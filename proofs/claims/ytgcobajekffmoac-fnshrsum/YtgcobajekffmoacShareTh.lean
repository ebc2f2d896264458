/-
  PROVED HERE: what is shared: what is whole of what is due to each, and one more to the first so many in the order of what is left over; plain theory.
-/
import Derived.Test.YtgcobajekffmoacClaims
import Derived.Test.YtgcobajekffmoacShrTh
import Derived.Test.YtgcobajekffmoacStblTh
namespace Go.Proofs.Ytgcobajekffmoac
open Go.Sort

def baseL (t : Int) (u : List Int) : List Int := (clL t u).map (·.w)
theorem baseL_len (t : Int) (u : List Int) : (baseL t u).length = u.length := by simp [baseL, clL_len]
theorem baseL_get {t : Int} {u : List Int} {i : Nat} (h : i < u.length) : (baseL t u).getD i 0 = t * u.getD i 0 / u.sum := by
  rw [List.getD, baseL, List.getElem?_map, clL_get h]
  rfl
theorem shrOk_wts {t : Int} {l : List Int} (h : shrOkB t l = true) : shrOkB t (wts l) = true := by
  simp only [shrOkB, Bool.and_eq_true] at h ⊢
  obtain ⟨⟨h1, h2⟩, h3⟩ := h
  exact ⟨⟨h1, by rw [wts_len]; exact h2⟩, wts_wt h3⟩
theorem base_sum {t : Int} {u : List Int} (h : shrOkB t u = true) (hs : 0 < u.sum) : ∀ k, k ≤ u.length → sumTo (baseL t u) k = dueTo t u k
  | 0, _ => by simp [sumTo, dueTo]
  | k + 1, hk => by
    have hlt : k < u.length := by omega
    rw [sumTo_succ (by rw [baseL_len]; exact hlt), base_sum h hs k (by omega), baseL_get hlt, dueTo, due_yes h (inB_nat hlt) (by omega), Int.toNat_natCast]
theorem dueTo_mono {t : Int} {u : List Int} : ∀ {i j : Nat}, i ≤ j → dueTo t u i ≤ dueTo t u j
  | i, 0, h => by
    obtain rfl : i = 0 := by omega
    exact Int.le_refl _
  | i, j + 1, h => by
    rcases Nat.lt_or_eq_of_le h with h1 | rfl
    · have := dueTo_mono (t := t) (u := u) (i := i) (j := j) (by omega)
      have := (dueV_bounds (t := t) (l := u) j).1
      rw [dueTo]
      omega
    · exact Int.le_refl _
/-- how much is left over -/
def leftN (t : Int) (u : List Int) : Nat := (t - dueTo t u u.length).toNat
theorem left_eq {t : Int} {u : List Int} (h : shrOkB t u = true) (hs : 0 < u.sum) : (leftN t u : Int) = t - dueTo t u u.length ∧ leftN t u < u.length := by
  have := dueTo_bounds h hs
  unfold leftN
  omega
theorem asc_cl (t : Int) (u : List Int) : Asc 0 (clL t u).toArray.size (clL t u).toArray := by
  intro x y _ h1 h2
  have h3 : y < u.length := by simpa [clL_len] using h2
  rw [clA_get (by omega), clA_get h3]
  show (x : Int) < (y : Int)
  omega
/-- the claims in the one order -/
def srtL (t : Int) (u : List Int) : List Cl := (clL t u).mergeSort (fun x y => !tB y x)
theorem srtL_len (t : Int) (u : List Int) : (srtL t u).length = u.length := by rw [srtL, List.length_mergeSort, clL_len]
theorem srtL_mem {t : Int} {u : List Int} {c : Cl} (h : c ∈ srtL t u) : ∃ i, i < u.length ∧ c = cl t u i := by
  rw [srtL, List.mem_mergeSort, clL, List.mem_map] at h
  obtain ⟨i, h1, h2⟩ := h
  exact ⟨i, List.mem_range.1 h1, h2.symm⟩
theorem srt_of {t : Int} {u : List Int} {d : Array Cl} (hp : PermIn 0 (clL t u).toArray.size (clL t u).toArray d) (hs : SortedIn tB 0 (clL t u).toArray.size d) : d = (srtL t u).toArray := by
  have h := sorted_unique_holds swoT tB_total (clL t u).toArray d hp hs
  apply Array.toList_inj.1
  rw [h]
  simp [srtL]
/-- one more for a claim's place -/
def bump (g : List Int) (c : Cl) : List Int := g.set c.p.toNat (g.getD c.p.toNat 0 + 1)
theorem bump_len (g : List Int) (c : Cl) : (bump g c).length = g.length := by simp [bump]
def bumps (g : List Int) (s : List Cl) (k : Nat) : List Int := (s.take k).foldl bump g
theorem bumps_zero (g : List Int) (s : List Cl) : bumps g s 0 = g := rfl
theorem bumps_succ {g : List Int} {s : List Cl} {k : Nat} (h : k < s.length) : bumps g s (k + 1) = bump (bumps g s k) s[k] := by
  unfold bumps
  rw [List.take_add_one, List.foldl_append, List.getElem?_eq_getElem h]
  rfl
theorem bumps_len (g : List Int) (s : List Cl) : ∀ k, (bumps g s k).length = g.length := by
  intro k
  unfold bumps
  induction s.take k generalizing g with
  | nil => rfl
  | cons c r ih => rw [List.foldl_cons, ih, bump_len]
theorem bump_get (g : List Int) (c : Cl) (i : Nat) (hi : i < g.length) : (bump g c).getD i 0 = if c.p.toNat = i then g.getD i 0 + 1 else g.getD i 0 := by
  unfold bump
  by_cases e : c.p.toNat = i
  · subst e
    simp [List.getD, hi]
  · simp [List.getD, List.getElem?_set_ne e, e]
theorem bumps_bound {g : List Int} {s : List Cl} {B : Int} (hg : ∀ i, i < g.length → 0 ≤ g.getD i 0 ∧ g.getD i 0 ≤ B) : ∀ k, k ≤ s.length → ∀ i, i < g.length → 0 ≤ (bumps g s k).getD i 0 ∧ (bumps g s k).getD i 0 ≤ B + k
  | 0, _, i, hi => by have := hg i hi; rw [bumps_zero]; omega
  | k + 1, hk, i, hi => by
    have ih := bumps_bound (s := s) hg k (by omega) i hi
    rw [bumps_succ (show k < s.length by omega), bump_get _ _ _ (by rw [bumps_len]; exact hi)]
    split <;> omega
/-- what each gets -/
def shareL (t : Int) (l : List Int) : List Int := if shrOkB t l = true ∧ l ≠ [] then bumps (baseL t (wts l)) (srtL t (wts l)) (leftN t (wts l)) else []
theorem shareL_none {t : Int} {l : List Int} (h : ¬ (shrOkB t l = true ∧ l ≠ [])) : shareL t l = [] := by rw [shareL, if_neg h]
theorem shareL_some {t : Int} {l : List Int} (h1 : shrOkB t l = true) (h2 : l ≠ []) : shareL t l = bumps (baseL t (wts l)) (srtL t (wts l)) (leftN t (wts l)) := by rw [shareL, if_pos ⟨h1, h2⟩]
theorem shareL_len {t : Int} {l : List Int} (h1 : shrOkB t l = true) : (shareL t l).length = l.length := by
  by_cases h2 : l = []
  · subst h2; rw [shareL_none (by simp)]
  · rw [shareL_some h1 h2, bumps_len, baseL_len, wts_len]
theorem base_small {t : Int} {u : List Int} (h : shrOkB t u = true) (hs : 0 < u.sum) {i : Nat} (hi : i < u.length) : 0 ≤ (baseL t u).getD i 0 ∧ (baseL t u).getD i 0 ≤ 100000 := by
  have h1 := base_sum h hs i (by omega)
  have h2 := base_sum h hs (i + 1) (by omega)
  rw [sumTo_succ (by rw [baseL_len]; exact hi)] at h2
  have h3 := dueTo_mono (t := t) (u := u) (i := i + 1) (j := u.length) (by omega)
  have h4 := (dueTo_bounds h hs).1
  have h5 := (shrOk_parts h).1
  have h6 := dueTo_wide (t := t) (l := u) i
  have h7 : 0 ≤ (baseL t u).getD i 0 := by
    rw [baseL_get hi]
    have hw := (shrOk_parts h).2.2
    exact Int.ediv_nonneg (mul_small h5 (wt_get hw hi)).1 (by omega)
  exact ⟨h7, by omega⟩
theorem shareL_small {t : Int} {l : List Int} (i : Nat) (hi : i < (shareL t l).length) : 0 ≤ (shareL t l).getD i 0 ∧ (shareL t l).getD i 0 ≤ 100200 := by
  by_cases hc : shrOkB t l = true ∧ l ≠ []
  · obtain ⟨h1, h2⟩ := hc
    have hw := (shrOk_parts h1).2
    have h0 : 0 < l.length := List.length_pos_iff.2 h2
    have hp := wts_pos hw.2 h0
    have hl := left_eq (shrOk_wts h1) hp
    rw [shareL_len h1] at hi
    rw [shareL_some h1 h2]
    have := bumps_bound (B := 100000) (s := srtL t (wts l)) (fun j hj => base_small (shrOk_wts h1) hp (by rw [baseL_len] at hj; exact hj)) (leftN t (wts l)) (by rw [srtL_len]; omega) i (by rw [baseL_len, wts_len]; exact hi)
    rw [wts_len] at hl
    omega
  · rw [shareL_none hc] at hi
    cases hi
end Go.Proofs.Ytgcobajekffmoac
