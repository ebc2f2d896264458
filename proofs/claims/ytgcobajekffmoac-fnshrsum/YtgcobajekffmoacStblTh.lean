/-
  PROVED HERE: plain theory of a stable sort of claims (their places ascend): rotations, merges in place, insertion; no program.
-/
import Derived.Test.YtgcobajekffmoacSrtCl
import Derived.Sort.LotA
import Derived.Sort.WalkA
namespace Go.Proofs.Ytgcobajekffmoac
open Go.Sort

theorem ltC_iff (x y : Cl) : ltOf cfC x y = decide (y.o < x.o) := by
  unfold ltOf cfC
  split
  · simp; omega
  · split <;> (simp; omega)
/-- the one order of claims: most left over first, then by place -/
def tB (x y : Cl) : Bool := decide (y.o < x.o ∨ (x.o = y.o ∧ (x.p < y.p ∨ (x.p = y.p ∧ x.w < y.w))))
theorem tB_iff (x y : Cl) : tB x y = true ↔ (y.o < x.o ∨ (x.o = y.o ∧ (x.p < y.p ∨ (x.p = y.p ∧ x.w < y.w)))) := by simp [tB]
theorem tB_not (x y : Cl) : tB x y = false ↔ ¬ (y.o < x.o ∨ (x.o = y.o ∧ (x.p < y.p ∨ (x.p = y.p ∧ x.w < y.w)))) := by rw [← tB_iff]; simp
theorem swoT : SWO tB where
  irrefl := fun x => by rw [tB_not]; omega
  trans := fun x y z h1 h2 => by rw [tB_iff] at *; omega
  ntrans := fun x y z h1 h2 => by rw [tB_not] at *; omega
theorem tB_total (x y : Cl) (h1 : tB x y = false) (h2 : tB y x = false) : x = y := by
  rw [tB_not] at h1 h2
  obtain ⟨a, b, c⟩ := x
  obtain ⟨a', b', c'⟩ := y
  simp only at h1 h2
  obtain rfl : a = a' := by omega
  obtain rfl : b = b' := by omega
  obtain rfl : c = c' := by omega
  rfl
theorem lt_tB {x y : Cl} (h : y.p < x.p) : ltOf cfC x y = tB x y := by
  rw [ltC_iff, Bool.eq_iff_iff, tB_iff, decide_eq_true_eq]; omega
theorem tB_asymm {x y : Cl} (h : tB x y = true) : tB y x = false := swoT.asymmA h
theorem tB_le_trans {x y z : Cl} (h1 : tB y x = false) (h2 : tB z y = false) : tB z x = false := swoT.ntrans z y x h2 h1

/-! insertion -/
theorem inner_perm (lt : Cl → Cl → Bool) (a b : Nat) : ∀ (j : Nat) (d : Array Cl), a ≤ j → j < b → b ≤ d.size → PermIn a b d (insInner lt a j d)
  | 0, d, _, _, _ => by unfold insInner; exact permIn_refl d a b
  | j + 1, d, haj, hjb, hb => by
    unfold insInner
    split
    · rename_i hc
      simp only [Bool.and_eq_true, decide_eq_true_eq] at hc
      exact permIn_trans _ _ _ a b (swp_permIn d a b (j + 1) j haj hjb (by omega) (by omega) hb) (inner_perm lt a b j _ (by omega) (by omega) (by rw [size_swp]; exact hb))
    · exact permIn_refl d a b
theorem inner_eq (a : Nat) : ∀ (j : Nat) (d : Array Cl), j < d.size → (∀ q, a ≤ q → q < j → d[q]!.p < d[j]!.p) → insInner (ltOf cfC) a j d = insInner tB a j d
  | 0, d, _, _ => by unfold insInner; rfl
  | j + 1, d, hj, h => by
    unfold insInner
    by_cases ha : j + 1 > a
    · have e : ltOf cfC d[j + 1]! d[j]! = tB d[j + 1]! d[j]! := lt_tB (h j (by omega) (by omega))
      rw [e]
      cases hc : tB d[j + 1]! d[j]!
      · simp
      · simp only [ha, decide_true, Bool.and_self, if_true]
        refine inner_eq a j _ (by rw [size_swp]; omega) (fun q h1 h2 => ?_)
        rw [swp_right _ _ _ (by omega), swp_other _ _ _ _ (by omega) (by omega)]
        exact h q h1 (by omega)
    · simp [ha]
theorem outer_eq (a b : Nat) : ∀ (n i : Nat) (d : Array Cl), b - i = n → a < i → b ≤ d.size → (∀ x y, a ≤ x → x < y → i ≤ y → y < b → d[x]!.p < d[y]!.p) → insOuter (ltOf cfC) a b i d = insOuter tB a b i d
  | 0, i, d, hn, _, _, _ => by rw [insOuter_stop _ _ _ _ _ (by omega), insOuter_stop _ _ _ _ _ (by omega)]
  | n + 1, i, d, hn, hai, hb, h => by
    have hlt : i < b := by omega
    rw [insOuter_go _ _ _ _ _ hlt, insOuter_go _ _ _ _ _ hlt, inner_eq a i d (by omega) (fun q h1 h2 => h q i h1 h2 (Nat.le_refl _) hlt)]
    have hP := inner_perm tB a (i + 1) i d (by omega) (by omega) (by omega)
    refine outer_eq a b n (i + 1) _ (by omega) (by omega) (by rw [hP.1]; exact hb) (fun x y h1 h2 h3 h4 => ?_)
    rw [hP.2.1 y (Or.inr h3)]
    by_cases hx : x < i + 1
    · exact permIn_all d _ a (i + 1) (fun z => z.p < d[y]!.p) (by omega) hP (fun q h5 h6 => h q y h5 (by omega) (by omega) h4) x h1 hx
    · rw [hP.2.1 x (Or.inr (by omega))]
      exact h x y h1 h2 (by omega) h4
/-- places ascend in a part -/
def Asc (a b : Nat) (d : Array Cl) : Prop := ∀ x y, a ≤ x → x < y → y < b → d[x]!.p < d[y]!.p
theorem ins_sorts (d : Array Cl) (a b : Nat) (hab : a ≤ b) (hb : b ≤ d.size) (h : Asc a b d) : PermIn a b d (Sort.insertionSort (ltOf cfC) d a b) ∧ SortedIn tB a b (Sort.insertionSort (ltOf cfC) d a b) := by
  have e : Sort.insertionSort (ltOf cfC) d a b = Sort.insertionSort tB d a b := by
    unfold Sort.insertionSort
    exact outer_eq a b (b - (a + 1)) (a + 1) d rfl (by omega) hb (fun x y h1 h2 _ h4 => h x y h1 h2 h4)
  rw [e]
  exact insertionSort_holds swoT d a b hab hb
end Go.Proofs.Ytgcobajekffmoac
