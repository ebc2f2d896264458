/-
  PROVED HERE: small facts on sums that wrap round, for the texts on where columns begin and end.
-/
import Derived.Test.YtfkkhfiiokhnaaiIntB
namespace Go.Proofs.Ytfkkhfiiokhnaai
open Go.RowKit

theorem W_eq (n : Int) : wrap64 n = (n + 9223372036854775808) % 18446744073709551616 - 9223372036854775808 := by unfold wrap64; rfl
theorem W_addl (a b : Int) : wrap64 (wrap64 a + b) = wrap64 (a + b) := by simp only [W_eq]; omega
theorem W_addr (a b : Int) : wrap64 (a + wrap64 b) = wrap64 (a + b) := by simp only [W_eq]; omega
theorem W_subl (a b : Int) : wrap64 (wrap64 a - b) = wrap64 (a - b) := by simp only [W_eq]; omega
theorem W_subr (a b : Int) : wrap64 (a - wrap64 b) = wrap64 (a - b) := by simp only [W_eq]; omega
theorem W_small {a : Int} (h : -9223372036854775808 ≤ a ∧ a ≤ 9223372036854775807) : wrap64 a = a := by rw [W_eq]; omega
theorem W_bounds (a : Int) : -9223372036854775808 ≤ wrap64 a ∧ wrap64 a ≤ 9223372036854775807 := by rw [W_eq]; omega
/-- how many columns are ahead of one -/
def aheadN (l : List Int) (col : Int) : Nat := (min (max col 0) l.length).toNat
/-- where a column begins -/
def atV (l : List Int) (gap col : Int) : Int := wrap64 (sumTo l (aheadN l col) + gap * (aheadN l col : Nat))
/-- where a column ends -/
def endV (l : List Int) (gap col : Int) : Int := if inB col 0 (l.length - 1) = true then wrap64 (atV l gap col + l.getD col.toNat 0) else 0
theorem aheadN_le (l : List Int) (col : Int) : aheadN l col ≤ l.length := by unfold aheadN; omega
theorem aheadN_nat (l : List Int) {k : Nat} (h : k ≤ l.length) : aheadN l k = k := by unfold aheadN; omega
/-- the first k columns' widths that are of a cell -/
def ownL (l : List Int) (p : Nat → Bool) : Nat → List Int
  | 0 => []
  | k + 1 => if p k = true then ownL l p k ++ [l.getD k 0] else ownL l p k
theorem ownL_len (l : List Int) (p : Nat → Bool) : ∀ k, (ownL l p k).length ≤ k
  | 0 => Nat.le_refl _
  | k + 1 => by
    have := ownL_len l p k
    unfold ownL
    split
    · rw [List.length_append, List.length_singleton]; omega
    · omega
/-- columns together, and what stands between -/
def acrV (xs : List Int) (gap : Int) : Int := if xs.length = 0 then 0 else wrap64 (xs.sum + gap * ((xs.length : Int) - 1))
theorem acrV_nil {xs : List Int} (h : xs.length = 0) (gap : Int) : acrV xs gap = 0 := by unfold acrV; rw [if_pos h]
theorem acrV_cons {xs : List Int} (h : xs.length ≠ 0) (gap : Int) : acrV xs gap = wrap64 (xs.sum + gap * ((xs.length : Int) - 1)) := by unfold acrV; rw [if_neg h]
/-- the next column of a cell: gap ahead of it, if it isn't the first one -/
theorem acrV_first (xs : List Int) (h : xs.length = 0) (gap x : Int) : acrV (xs ++ [x]) gap = wrap64 (acrV xs gap + x) := by
  obtain rfl : xs = [] := List.eq_nil_of_length_eq_zero h
  rw [acrV_nil h, acrV_cons (by simp)]
  simp
theorem acrV_next (xs : List Int) (h : xs.length ≠ 0) (gap x : Int) : acrV (xs ++ [x]) gap = wrap64 (wrap64 (acrV xs gap + gap) + x) := by
  rw [acrV_cons h, acrV_cons (by simp), W_addl, List.sum_append, List.length_append, List.length_singleton]
  have e : gap * (((xs.length + 1 : Nat) : Int) - 1) = gap * ((xs.length : Int) - 1) + gap := by
    rw [show (((xs.length + 1 : Nat) : Int) - 1) = ((xs.length : Int) - 1) + 1 by omega, Int.mul_add, Int.mul_one]
  rw [e]
  simp only [List.sum_cons, List.sum_nil]
  generalize gap * ((xs.length : Int) - 1) = y
  generalize xs.sum = z
  simp only [W_eq]
  omega
theorem IntsAt.take {w : World} {a : Option Addr} {n cap : Nat} {l : List Int} (h : IntsAt w (.slice a n cap) l) {m : Nat} (hm : m ≤ l.length) : IntsAt w (.slice a m cap) (l.take m) := by
  obtain ⟨a', cap', hv, h1, h2, h3⟩ := h
  simp only [Value.slice.injEq] at hv
  obtain ⟨rfl, rfl, rfl⟩ := hv
  have hl : (l.take m).length = m := by rw [List.length_take]; omega
  refine ⟨a, cap, by rw [hl], by omega, h2, fun i hi => ?_⟩
  rw [hl] at hi
  obtain ⟨b, off, h4, h5, h6⟩ := h3 i (by omega)
  refine ⟨b, off, h4, h5, ?_⟩
  rw [h6]
  simp [List.getD, hi]
end Go.Proofs.Ytfkkhfiiokhnaai
