/-
  PROVED HERE: the model's way to hand out what is left over, one by one, goes through the claims in the one order; plain theory.
-/
import Derived.Test.YtgcobajekffmoacShareTh
namespace Go.Proofs.Ytgcobajekffmoac
open Go.Sort

def remL (t : Int) (u : List Int) : List Int := (clL t u).map (·.o)
theorem remL_len (t : Int) (u : List Int) : (remL t u).length = u.length := by simp [remL, clL_len]
theorem remL_get {t : Int} {u : List Int} {i : Nat} (h : i < u.length) : (remL t u).getD i 0 = t * u.getD i 0 % u.sum := by
  rw [List.getD, remL, List.getElem?_map, clL_get h]
  rfl
theorem take_next {l : List Int} {k : Nat} (h : k < l.length) : l.take (k + 1) = l.take k ++ [l.getD k 0] := by
  rw [List.take_add_one]
  simp [List.getD, h]
/-- among the first m: the first one of those that have got none yet to whom most is left over -/
def NextP (lr : List Int) (bl : List Bool) (m : Nat) (k : Int) : Prop :=
  (k = -1 ∧ ∀ i, i < m → bl.getD i false = true) ∨ ∃ j : Nat, k = j ∧ j < m ∧ bl.getD j false = false ∧ ∀ i, i < m → bl.getD i false = false → lr.getD i 0 < lr.getD j 0 ∨ (lr.getD i 0 = lr.getD j 0 ∧ j ≤ i)
theorem NextP.zero (lr : List Int) (bl : List Bool) : NextP lr bl 0 (-1) := .inl ⟨rfl, fun _ h => absurd h (Nat.not_lt_zero _)⟩
theorem NextP.got {lr : List Int} {bl : List Bool} {m : Nat} {k : Int} (h : NextP lr bl m k) (hb : bl.getD m false = true) : NextP lr bl (m + 1) k := by
  rcases h with ⟨h1, h2⟩ | ⟨j, h1, h2, h3, h4⟩
  · refine .inl ⟨h1, fun i hi => ?_⟩
    rcases Nat.lt_or_eq_of_le (Nat.lt_succ_iff.1 hi) with h | rfl
    · exact h2 i h
    · exact hb
  · refine .inr ⟨j, h1, by omega, h3, fun i hi hn => ?_⟩
    rcases Nat.lt_or_eq_of_le (Nat.lt_succ_iff.1 hi) with h | rfl
    · exact h4 i h hn
    · rw [hb] at hn; cases hn
theorem NextP.first {lr : List Int} {bl : List Bool} {m : Nat} (h : ∀ i, i < m → bl.getD i false = true) (hb : bl.getD m false = false) : NextP lr bl (m + 1) m := by
  refine .inr ⟨m, rfl, Nat.lt_succ_self _, hb, fun i hi hn => ?_⟩
  rcases Nat.lt_or_eq_of_le (Nat.lt_succ_iff.1 hi) with h1 | rfl
  · rw [h i h1] at hn; cases hn
  · exact .inr ⟨rfl, Nat.le_refl _⟩
theorem NextP.more {lr : List Int} {bl : List Bool} {m j : Nat} (h4 : ∀ i, i < m → bl.getD i false = false → lr.getD i 0 < lr.getD j 0 ∨ (lr.getD i 0 = lr.getD j 0 ∧ j ≤ i)) (hb : bl.getD m false = false) (hm : lr.getD j 0 < lr.getD m 0) : NextP lr bl (m + 1) m := by
  refine .inr ⟨m, rfl, Nat.lt_succ_self _, hb, fun i hi hn => ?_⟩
  rcases Nat.lt_or_eq_of_le (Nat.lt_succ_iff.1 hi) with h1 | rfl
  · have := h4 i h1 hn; left; omega
  · exact .inr ⟨rfl, Nat.le_refl _⟩
theorem NextP.less {lr : List Int} {bl : List Bool} {m j : Nat} (hj : j < m) (h3 : bl.getD j false = false) (h4 : ∀ i, i < m → bl.getD i false = false → lr.getD i 0 < lr.getD j 0 ∨ (lr.getD i 0 = lr.getD j 0 ∧ j ≤ i)) (hm : ¬ lr.getD j 0 < lr.getD m 0) : NextP lr bl (m + 1) j := by
  refine .inr ⟨j, rfl, by omega, h3, fun i hi hn => ?_⟩
  rcases Nat.lt_or_eq_of_le (Nat.lt_succ_iff.1 hi) with h1 | rfl
  · exact h4 i h1 hn
  · omega
theorem srt_sorted (t : Int) (u : List Int) : (srtL t u).Pairwise (fun x y => tB y x = false) := by
  have := List.pairwise_mergeSort (le := fun x y : Cl => !tB y x) (fun a b c h1 h2 => by
      simp only [Bool.not_eq_true'] at h1 h2 ⊢
      exact swoT.ntrans c b a h2 h1) (fun a b => by
      cases h : tB b a with
      | false => simp
      | true => simp [tB_asymm h]) (clL t u)
  exact this.imp (fun h => by simpa using h)
theorem cl_place (t : Int) (u : List Int) (i : Nat) : (cl t u i).p = i := rfl
theorem srt_nodup (t : Int) (u : List Int) : (srtL t u).Nodup := by
  rw [srtL, (List.mergeSort_perm _ _).nodup_iff, clL]
  refine List.Pairwise.map _ (fun a b (h : a ≠ b) e => h ?_) List.nodup_range
  have := congrArg Cl.p e
  rw [cl_place, cl_place] at this
  omega
theorem srt_mem {t : Int} {u : List Int} {i : Nat} (h : i < u.length) : cl t u i ∈ srtL t u := by
  rw [srtL, List.mem_mergeSort, clL]
  exact List.mem_map.2 ⟨i, List.mem_range.2 h, rfl⟩
/-- who has got one: the first j in the one order -/
def GotP (t : Int) (u : List Int) (bl : List Bool) (j : Nat) : Prop := ∀ i, i < u.length → (bl.getD i false = true ↔ cl t u i ∈ (srtL t u).take j)
theorem got_zero (t : Int) (u : List Int) (n : Nat) : GotP t u (List.replicate n false) 0 := fun i _ => by
  simp only [List.take_zero, List.not_mem_nil, iff_false]
  by_cases h : i < n <;> simp [List.getD, h]
theorem next_is {t : Int} {u : List Int} {bl : List Bool} {j : Nat} {k : Int} (hj : j < (srtL t u).length) (hg : GotP t u bl j) (hn : NextP (remL t u) bl u.length k) : ∃ i, i < u.length ∧ (srtL t u)[j] = cl t u i ∧ k = i ∧ bl.getD i false = false := by
  obtain ⟨i, hi, he⟩ := srtL_mem (List.getElem_mem hj)
  have hno : bl.getD i false = false := by
    cases hb : bl.getD i false with
    | false => rfl
    | true =>
      exfalso
      have hm := (hg i hi).1 hb
      rw [← he] at hm
      obtain ⟨q, hq, hqe⟩ := List.getElem_of_mem hm
      rw [List.length_take] at hq
      rw [List.getElem_take] at hqe
      exact List.pairwise_iff_getElem.1 (srt_nodup t u) q j (by omega) hj (by omega) hqe
  refine ⟨i, hi, he, ?_, hno⟩
  rcases hn with ⟨_, h2⟩ | ⟨j', h1, h2, h3, h4⟩
  · rw [h2 i hi] at hno; cases hno
  · have hx := h4 i hi hno
    have hm' : cl t u j' ∈ (srtL t u).drop j := by
      have := srt_mem (t := t) h2
      rw [← List.take_append_drop j (srtL t u), List.mem_append] at this
      rcases this with h | h
      · exfalso
        rw [(hg j' h2).2 h] at h3
        cases h3
      · exact h
    have hle : tB (cl t u j') (cl t u i) = false := by
      rw [List.drop_eq_getElem_cons hj, List.mem_cons] at hm'
      rcases hm' with h | h
      · rw [h, he]; exact swoT.irrefl _
      · have hp := List.pairwise_iff_getElem.1 (srt_sorted t u)
        obtain ⟨q, hq, hqe⟩ := List.getElem_of_mem h
        rw [List.length_drop] at hq
        rw [List.getElem_drop] at hqe
        have := hp j (j + 1 + q) hj (by omega) (by omega)
        rw [hqe, he] at this
        exact this
    rw [tB_not] at hle
    rw [remL_get hi, remL_get h2] at hx
    simp only [cl] at hle
    rw [h1]
    omega
theorem got_next {t : Int} {u : List Int} {bl : List Bool} {j i : Nat} (hl : bl.length = u.length) (hj : j < (srtL t u).length) (hg : GotP t u bl j) (he : (srtL t u)[j] = cl t u i) : GotP t u (bl.set i true) (j + 1) := by
  intro q hq
  rw [List.take_add_one, List.mem_append, List.getElem?_eq_getElem hj, he]
  by_cases e : i = q
  · subst e
    simp [List.getD, hl, hq]
  · have h1 : (bl.set i true).getD q false = bl.getD q false := by simp [List.getD, List.getElem?_set_ne e]
    rw [h1, hg q hq]
    simp only [Option.toList_some, List.mem_singleton]
    constructor
    · exact Or.inl
    · rintro (h | h)
      · exact h
      · exfalso
        have := congrArg Cl.p h
        rw [cl_place, cl_place] at this
        omega
end Go.Proofs.Ytgcobajekffmoac
