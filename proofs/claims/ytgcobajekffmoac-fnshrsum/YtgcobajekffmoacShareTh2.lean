/-
  PROVED HERE: what is shared is all of it; who weighs nothing gets nothing; who weighs more gets no less; plain theory.
-/
import Derived.Test.YtgcobajekffmoacNextTh
namespace Go.Proofs.Ytgcobajekffmoac
open Go.Sort

instance : DecidableEq Cl := fun a b => decidable_of_iff (a.p = b.p ∧ a.w = b.w ∧ a.o = b.o) (by cases a; cases b; simp)
theorem perm_sum {a b : List Int} (h : a.Perm b) : a.sum = b.sum := by
  induction h with
  | nil => rfl
  | cons x _ ih => rw [List.sum_cons, List.sum_cons, ih]
  | swap x y l => simp only [List.sum_cons]; omega
  | trans _ _ h1 h2 => exact h1.trans h2
theorem sum_set {l : List Int} : ∀ {i : Nat}, i < l.length → ∀ x, (l.set i x).sum = l.sum - l.getD i 0 + x := by
  induction l with
  | nil => intro i hi; cases hi
  | cons y r ih =>
    intro i hi x
    cases i with
    | zero => simp [List.getD]; omega
    | succ k =>
      have := ih (i := k) (by simpa using hi) x
      simp only [List.set_cons_succ, List.sum_cons, this]
      simp [List.getD]
      omega
theorem bump_sum {g : List Int} {c : Cl} (h : c.p.toNat < g.length) : (bump g c).sum = g.sum + 1 := by
  rw [bump, sum_set h]
  omega
theorem bumps_sum {t : Int} {u : List Int} {g : List Int} (hg : g.length = u.length) : ∀ k, k ≤ (srtL t u).length → (bumps g (srtL t u) k).sum = g.sum + k
  | 0, _ => by rw [bumps_zero]; omega
  | k + 1, hk => by
    have hlt : k < (srtL t u).length := by omega
    obtain ⟨i, hi, he⟩ := srtL_mem (List.getElem_mem hlt)
    rw [bumps_succ hlt, bump_sum (by rw [he, cl_place, bumps_len, hg]; simpa using hi), bumps_sum hg k (by omega)]
    omega
theorem bumps_get {t : Int} {u : List Int} {g : List Int} (hg : g.length = u.length) {i : Nat} (hi : i < u.length) : ∀ k, k ≤ (srtL t u).length → (bumps g (srtL t u) k).getD i 0 = g.getD i 0 + if cl t u i ∈ (srtL t u).take k then 1 else 0
  | 0, _ => by rw [bumps_zero]; simp
  | k + 1, hk => by
    have hlt : k < (srtL t u).length := by omega
    obtain ⟨j, hj, he⟩ := srtL_mem (List.getElem_mem hlt)
    rw [bumps_succ hlt, bump_get _ _ _ (by rw [bumps_len, hg]; exact hi), bumps_get hg hi k (by omega), he, cl_place, List.take_add_one, List.getElem?_eq_getElem hlt, he]
    have hno : cl t u j ∉ (srtL t u).take k := fun hm => by
      obtain ⟨q, hq, hqe⟩ := List.getElem_of_mem hm
      rw [List.length_take] at hq
      rw [List.getElem_take] at hqe
      exact List.pairwise_iff_getElem.1 (srt_nodup t u) q k (by omega) hlt (by omega) (by rw [hqe, he])
    by_cases e : j = i
    · subst e
      simp [hno]
    · have e2 : cl t u i ≠ cl t u j := fun h => e (by have := congrArg Cl.p h; rw [cl_place, cl_place] at this; omega)
      simp [e, e2]
/-- what each gets, in full -/
theorem share_get {t : Int} {l : List Int} (h1 : shrOkB t l = true) {i : Nat} (hi : i < l.length) :
    (shareL t l).getD i 0 = t * (wts l).getD i 0 / (wts l).sum + if cl t (wts l) i ∈ (srtL t (wts l)).take (leftN t (wts l)) then 1 else 0 := by
  have h0 : 0 < l.length := by omega
  have hw := (shrOk_parts h1).2
  have hp := wts_pos hw.2 h0
  have hl := left_eq (shrOk_wts h1) hp
  have hu : i < (wts l).length := by rw [wts_len]; exact hi
  rw [shareL_some h1 (List.length_pos_iff.1 h0), bumps_get (baseL_len _ _) hu _ (by rw [srtL_len]; omega), baseL_get hu]
theorem share_sum {t : Int} {l : List Int} (h1 : shrOkB t l = true) (h0 : 0 < l.length) : (shareL t l).sum = t := by
  have hw := (shrOk_parts h1).2
  have hp := wts_pos hw.2 h0
  have hk := shrOk_wts h1
  have hl := left_eq hk hp
  rw [shareL_some h1 (List.length_pos_iff.1 h0), bumps_sum (baseL_len _ _) _ (by rw [srtL_len]; omega)]
  have := base_sum hk hp (wts l).length (Nat.le_refl _)
  rw [← baseL_len t (wts l), sumTo_all, baseL_len] at this
  omega
/-- who comes ahead of somebody in the one order has got one, if that one has -/
theorem ahead_got {t : Int} {u : List Int} {i k j : Nat} (hi : i < u.length) (h : tB (cl t u i) (cl t u k) = true) (hk : cl t u k ∈ (srtL t u).take j) : cl t u i ∈ (srtL t u).take j := by
  have hm := srt_mem (t := t) hi
  rw [← List.take_append_drop j (srtL t u), List.mem_append] at hm
  rcases hm with hm | hm
  · exact hm
  · exfalso
    obtain ⟨q, hq, hqe⟩ := List.getElem_of_mem hk
    obtain ⟨p, hp, hpe⟩ := List.getElem_of_mem hm
    rw [List.length_take] at hq
    rw [List.getElem_take] at hqe
    rw [List.length_drop] at hp
    rw [List.getElem_drop] at hpe
    have := List.pairwise_iff_getElem.1 (srt_sorted t u) q (j + p) (by omega) (by omega) (by omega)
    rw [hqe, hpe, h] at this
    cases this
theorem share_more {t : Int} {l : List Int} (h1 : shrOkB t l = true) {i k : Nat} (hi : i < l.length) (hk : k < l.length) (h : (wts l).getD k 0 < (wts l).getD i 0) : (shareL t l).getD k 0 ≤ (shareL t l).getD i 0 := by
  rw [share_get h1 hi, share_get h1 hk]
  have h0 : 0 < l.length := by omega
  obtain ⟨ht, _, hw⟩ := shrOk_parts h1
  have hp := wts_pos hw h0
  have hui : i < (wts l).length := by rw [wts_len]; exact hi
  have hmul : t * (wts l).getD k 0 ≤ t * (wts l).getD i 0 := Int.mul_le_mul_of_nonneg_left (by omega) ht.1
  have hdiv := Int.ediv_le_ediv hp hmul
  by_cases hm : cl t (wts l) k ∈ (srtL t (wts l)).take (leftN t (wts l))
  · rw [if_pos hm]
    by_cases hq : t * (wts l).getD k 0 / (wts l).sum = t * (wts l).getD i 0 / (wts l).sum
    · have m1 := Int.mul_ediv_add_emod (t * (wts l).getD k 0) (wts l).sum
      have m2 := Int.mul_ediv_add_emod (t * (wts l).getD i 0) (wts l).sum
      rw [hq] at m1
      by_cases hlt : t * (wts l).getD k 0 < t * (wts l).getD i 0
      · have := ahead_got (t := t) hui (by rw [tB_iff]; simp only [cl]; omega) hm
        rw [if_pos this]
        omega
      · exfalso
        have heq : t * (wts l).getD k 0 = t * (wts l).getD i 0 := by omega
        have ht0 : t = 0 := by
          by_cases ht0 : t = 0
          · exact ht0
          · have := Int.mul_lt_mul_of_pos_left h (show 0 < t by omega)
            omega
        have hlf := left_eq (shrOk_wts h1) hp
        have hd := (dueTo_wide (t := t) (l := wts l) (wts l).length).1
        have : leftN t (wts l) = 0 := by omega
        rw [this] at hm
        simp at hm
    · split <;> omega
  · rw [if_neg hm]
    split <;> omega
theorem share_alike {t : Int} {l : List Int} (h1 : shrOkB t l = true) {i k : Nat} (hik : i < k) (hk : k < l.length) (h : (wts l).getD i 0 = (wts l).getD k 0) : (shareL t l).getD k 0 ≤ (shareL t l).getD i 0 ∧ (shareL t l).getD i 0 ≤ (shareL t l).getD k 0 + 1 := by
  rw [share_get h1 (show i < l.length by omega), share_get h1 hk]
  have hui : i < (wts l).length := by rw [wts_len]; omega
  rw [h]
  by_cases hm : cl t (wts l) k ∈ (srtL t (wts l)).take (leftN t (wts l))
  · have := ahead_got (t := t) hui (by rw [tB_iff]; simp only [cl]; rw [h]; omega) hm
    rw [if_pos this, if_pos hm]
    omega
  · rw [if_neg hm]
    split <;> omega
theorem sum_map_o {t : Int} {u : List Int} : ((srtL t u).map (·.o)).sum = (remL t u).sum := by
  rw [srtL, remL]
  exact perm_sum ((List.mergeSort_perm (clL t u) _).map _)
theorem rem_sum {t : Int} {u : List Int} (h : shrOkB t u = true) (hs : 0 < u.sum) : ∀ k, k ≤ u.length → sumTo (remL t u) k = t * sumTo u k - u.sum * dueTo t u k
  | 0, _ => by simp [sumTo, dueTo]
  | k + 1, hk => by
    have hlt : k < u.length := by omega
    have m1 := Int.mul_ediv_add_emod (t * u.getD k 0) u.sum
    rw [sumTo_succ (by rw [remL_len]; exact hlt), rem_sum h hs k (by omega), remL_get hlt, sumTo_succ hlt, dueTo, due_yes h (inB_nat hlt) (by omega), Int.toNat_natCast, Int.mul_add, Int.mul_add]
    omega
theorem sum_le_of {L : List Int} {B : Int} (h : ∀ x ∈ L, x ≤ B) : L.sum ≤ L.length * B := by
  induction L with
  | nil => simp
  | cons y r ih =>
    have h1 := ih (fun x hx => h x (List.mem_cons_of_mem _ hx))
    have h2 := h y List.mem_cons_self
    rw [List.sum_cons, List.length_cons, Int.natCast_add, Int.add_mul]
    simp only [Int.natCast_one, Int.one_mul]
    omega
theorem rem_range {t : Int} {u : List Int} (hs : 0 < u.sum) (i : Nat) : 0 ≤ (cl t u i).o ∧ (cl t u i).o < u.sum := ⟨Int.emod_nonneg _ (by omega), Int.emod_lt_of_pos _ hs⟩
/-- nobody of whom nothing is left over gets one of the rest -/
theorem none_of_zero {t : Int} {u : List Int} (h : shrOkB t u = true) (hs : 0 < u.sum) {i : Nat} (ho : (cl t u i).o = 0) : cl t u i ∉ (srtL t u).take (leftN t u) := by
  intro hm
  obtain ⟨q, hq, hqe⟩ := List.getElem_of_mem hm
  rw [List.length_take] at hq
  rw [List.getElem_take] at hqe
  have hlf := left_eq h hs
  have hall : (srtL t u).map (·.o) = ((srtL t u).take q).map (·.o) ++ ((srtL t u).drop q).map (·.o) := by rw [← List.map_append, List.take_append_drop]
  have hsum : ((srtL t u).map (·.o)).sum = u.sum * leftN t u := by
    rw [sum_map_o]
    have := rem_sum h hs u.length (Nat.le_refl _)
    rw [← remL_len t u, sumTo_all, remL_len, sumTo_all] at this
    rw [this, hlf.1, Int.mul_sub, Int.mul_comm t]
  have h1 : (((srtL t u).take q).map (·.o)).sum ≤ (((srtL t u).take q).map (·.o)).length * (u.sum - 1) := sum_le_of (fun x hx => by
    obtain ⟨c, hc, rfl⟩ := List.mem_map.1 hx
    obtain ⟨j, _, rfl⟩ := srtL_mem (List.mem_of_mem_take hc)
    have := (rem_range (t := t) hs j).2
    omega)
  have h2 : (((srtL t u).drop q).map (·.o)).sum ≤ (((srtL t u).drop q).map (·.o)).length * 0 := sum_le_of (fun x hx => by
    obtain ⟨c, hc, rfl⟩ := List.mem_map.1 hx
    obtain ⟨p, hp, hpe⟩ := List.getElem_of_mem hc
    rw [List.length_drop] at hp
    rw [List.getElem_drop] at hpe
    have hle : tB (srtL t u)[q + p] (srtL t u)[q] = false := by
      rcases Nat.eq_zero_or_pos p with rfl | hpp
      · exact swoT.irrefl _
      · exact List.pairwise_iff_getElem.1 (srt_sorted t u) q (q + p) (by omega) (by omega) (by omega)
    rw [hqe, hpe, tB_not] at hle
    omega)
  rw [hall, List.sum_append] at hsum
  simp only [List.length_map, List.length_take] at h1
  rw [Nat.min_eq_left (by omega)] at h1
  have h3 : (q : Int) * (u.sum - 1) < u.sum * leftN t u := by
    have e1 : (q : Int) * (u.sum - 1) ≤ (q : Int) * u.sum := Int.mul_le_mul_of_nonneg_left (by omega) (by omega)
    have e2 : (q : Int) * u.sum < (leftN t u : Int) * u.sum := Int.mul_lt_mul_of_pos_right (by omega) hs
    rw [Int.mul_comm u.sum]
    omega
  omega
theorem share_zero {t : Int} {l : List Int} (h1 : shrOkB t l = true) (hs : l.sum ≠ 0) {i : Nat} (hi : i < l.length) (hz : l.getD i 0 = 0) : (shareL t l).getD i 0 = 0 := by
  have hu : wts l = l := by rw [wts, if_neg hs]
  have hp := wts_pos (shrOk_parts h1).2.2 (show 0 < l.length by omega)
  rw [hu] at hp
  have := none_of_zero (t := t) h1 hp (i := i) (by show t * l.getD i 0 % l.sum = 0; rw [hz]; simp)
  rw [share_get h1 hi, hu, if_neg this, hz]
  simp
theorem share_due {t : Int} {l : List Int} (h1 : shrOkB t l = true) (hs : l.sum ≠ 0) {i : Nat} (hi : i < l.length) : (shareL t l).getD i 0 = dueV t l i ∨ (shareL t l).getD i 0 = dueV t l i + 1 := by
  have hu : wts l = l := by rw [wts, if_neg hs]
  rw [share_get h1 hi, hu, due_yes h1 (inB_nat hi) hs, Int.toNat_natCast]
  split <;> omega
theorem share_upto {t : Int} {l : List Int} (h1 : shrOkB t l = true) (hs : t < l.sum) {i : Nat} (hi : i < l.length) : 0 ≤ (shareL t l).getD i 0 ∧ (shareL t l).getD i 0 ≤ l.getD i 0 := by
  obtain ⟨ht, _, hw⟩ := shrOk_parts h1
  have hwi := wt_get hw hi
  have hsm := shareL_small (t := t) (l := l) i (by rw [shareL_len h1]; exact hi)
  refine ⟨hsm.1, ?_⟩
  by_cases hz : l.getD i 0 = 0
  · rw [share_zero h1 (by omega) hi hz]; omega
  · have hlt : t * l.getD i 0 / l.sum < l.getD i 0 := by
      apply Int.ediv_lt_of_lt_mul (by omega)
      rw [Int.mul_comm (l.getD i 0)]
      exact Int.mul_lt_mul_of_pos_right hs (by omega)
    rcases share_due h1 (show l.sum ≠ 0 by omega) hi with h | h
    · rw [h, due_yes h1 (inB_nat hi) (by omega), Int.toNat_natCast]; omega
    · rw [h, due_yes h1 (inB_nat hi) (by omega), Int.toNat_natCast]; omega
end Go.Proofs.Ytgcobajekffmoac
