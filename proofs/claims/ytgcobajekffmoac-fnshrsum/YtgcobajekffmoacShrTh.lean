/-
  PROVED HERE: what is due to all is no more than all, and less than that by fewer than there are; plain arithmetic.
-/
import Derived.Test.YtgcobajekffmoacShrDueI
namespace Go.Proofs.Ytgcobajekffmoac
open Go.RowKit

/-- what is due to the first k, together -/
def dueTo (t : Int) (l : List Int) : Nat → Int
  | 0 => 0
  | k + 1 => dueTo t l k + dueV t l k
theorem inB_nat {l : List Int} {k : Nat} (h : k < l.length) : inB (k : Int) 0 ((l.length : Int) - 1) = true := inB_true (by omega) (by omega)
theorem dueTo_none {t : Int} {l : List Int} (h : shrOkB t l = false ∨ l.sum = 0) : ∀ k, dueTo t l k = 0
  | 0 => rfl
  | k + 1 => by
    rw [dueTo, dueTo_none h k, due_no (by rcases h with h | h; exact .inl h; exact .inr (.inr h))]
    rfl
theorem div_both {a s : Int} (hs : 0 < s) : s * (a / s) ≤ a ∧ a ≤ s * (a / s) + (s - 1) := by
  have h1 := Int.mul_ediv_add_emod a s
  have h2 := Int.emod_nonneg a (show s ≠ 0 by omega)
  have h3 := Int.emod_lt_of_pos a hs
  constructor <;> omega
theorem dueTo_both {t : Int} {l : List Int} (h : shrOkB t l = true) (hs : 0 < l.sum) : ∀ k, k ≤ l.length → l.sum * dueTo t l k ≤ t * sumTo l k ∧ t * sumTo l k ≤ l.sum * dueTo t l k + k * (l.sum - 1)
  | 0, _ => by simp [dueTo, sumTo]
  | k + 1, hk => by
    obtain ⟨h1, h2⟩ := dueTo_both h hs k (by omega)
    have hlt : k < l.length := by omega
    obtain ⟨h3, h4⟩ := div_both (a := t * l.getD k 0) hs
    rw [dueTo, due_yes h (inB_nat hlt) (by omega), sumTo_succ hlt, Int.toNat_natCast, Int.mul_add, Int.mul_add]
    have e : ((k + 1 : Nat) : Int) * (l.sum - 1) = (k : Int) * (l.sum - 1) + (l.sum - 1) := by rw [Int.natCast_add, Int.add_mul]; simp
    rw [e]
    constructor <;> omega
theorem dueTo_bounds {t : Int} {l : List Int} (h : shrOkB t l = true) (hs : 0 < l.sum) : dueTo t l l.length ≤ t ∧ t - l.length < dueTo t l l.length := by
  obtain ⟨h1, h2⟩ := dueTo_both h hs l.length (Nat.le_refl _)
  rw [sumTo_all] at h1 h2
  have hl : 0 < l.length := by
    rcases Nat.eq_zero_or_pos l.length with h0 | h0
    · rw [List.eq_nil_of_length_eq_zero h0] at hs; simp at hs
    · exact h0
  generalize l.sum = s at *
  generalize dueTo t l l.length = d at *
  generalize l.length = n at *
  rw [Int.mul_comm t s] at h1 h2
  constructor
  · exact Int.le_of_mul_le_mul_left h1 hs
  · apply Int.lt_of_mul_lt_mul_left (a := s) _ (by omega)
    rw [Int.mul_sub]
    have e : (n : Int) * (s - 1) = s * n - n := by rw [Int.mul_sub, Int.mul_one, Int.mul_comm]
    omega
theorem dueV_bounds {t : Int} {l : List Int} (k : Int) : 0 ≤ dueV t l k ∧ dueV t l k ≤ 10000000000 := by
  by_cases h : (shrOkB t l && inB k 0 (l.length - 1) && l.sum != 0) = true
  · rw [dueV, if_pos h]
    simp only [Bool.and_eq_true, bne_iff_ne] at h
    obtain ⟨⟨h1, h2⟩, h3⟩ := h
    obtain ⟨ht, hl, hw⟩ := shrOk_parts h1
    have hk : 0 ≤ k ∧ k ≤ (l.length : Int) - 1 := by simpa [inB] using h2
    have hm := mul_small ht (wt_get hw (i := k.toNat) (by omega))
    have hs := (sum_bound hw).1
    exact ⟨Int.ediv_nonneg hm.1 hs, Int.le_trans (Int.ediv_le_self _ hm.1) hm.2⟩
  · rw [dueV, if_neg h]
    omega
theorem dueTo_wide {t : Int} {l : List Int} : ∀ k : Nat, 0 ≤ dueTo t l k ∧ dueTo t l k ≤ k * 10000000000
  | 0 => by simp [dueTo]
  | k + 1 => by
    have h1 := dueTo_wide (t := t) (l := l) k
    have h2 := dueV_bounds (t := t) (l := l) k
    rw [dueTo]
    omega
end Go.Proofs.Ytgcobajekffmoac
