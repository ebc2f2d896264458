/-
  PROVED HERE: plain theory of rotations and of merges in place, of claims; no program.
-/
import Derived.Test.YtgcobajekffmoacStblTh
namespace Go.Proofs.Ytgcobajekffmoac
open Go.Sort

/-- the n from a on and the n from b on have changed their places -/
structure SwR (a b n : Nat) (d d' : Array Cl) : Prop where
  size : d'.size = d.size
  left : ∀ t, t < n → d'[a + t]! = d[b + t]!
  right : ∀ t, t < n → d'[b + t]! = d[a + t]!
  rest : ∀ t, (t < a ∨ a + n ≤ t) → (t < b ∨ b + n ≤ t) → d'[t]! = d[t]!
theorem SwR.zero (a b : Nat) (d : Array Cl) : SwR a b 0 d d := ⟨rfl, fun _ h => absurd h (Nat.not_lt_zero _), fun _ h => absurd h (Nat.not_lt_zero _), fun _ _ _ => rfl⟩
theorem SwR.next {a b i : Nat} {d dk : Array Cl} (h : SwR a b i d dk) (hab : a + i < b) (hb : b + i < d.size) : SwR a b (i + 1) d (swp dk (a + i) (b + i)) := by
  have hs := h.size
  refine ⟨by rw [size_swp]; exact hs, fun t ht => ?_, fun t ht => ?_, fun t h1 h2 => ?_⟩
  · by_cases e : t = i
    · subst e
      rw [swp_left _ _ _ (by omega) (by omega)]
      exact h.rest _ (by omega) (by omega)
    · rw [swp_other _ _ _ _ (by omega) (by omega)]
      exact h.left t (by omega)
  · by_cases e : t = i
    · subst e
      rw [swp_right _ _ _ (by omega)]
      exact h.rest _ (by omega) (by omega)
    · rw [swp_other _ _ _ _ (by omega) (by omega)]
      exact h.right t (by omega)
  · rw [swp_other _ _ _ _ (by omega) (by omega)]
    exact h.rest t (by omega) (by omega)


theorem ix {d : Array Cl} {i j : Nat} (h : i = j) : d[i]! = d[j]! := by rw [h]
/-- what stood from a to m and what stood from m to b have changed their places -/
structure RotD (a m b : Nat) (d d' : Array Cl) : Prop where
  size : d'.size = d.size
  low : ∀ t, a ≤ t → t < a + (b - m) → d'[t]! = d[t + (m - a)]!
  high : ∀ t, a + (b - m) ≤ t → t < b → d'[t]! = d[t - (b - m)]!
  rest : ∀ t, t < a ∨ b ≤ t → d'[t]! = d[t]!
theorem RotD.left_none (m b : Nat) (d : Array Cl) : RotD m m b d d :=
  ⟨rfl, fun t _ _ => ix (by omega), fun t h1 h2 => by omega, fun _ _ => rfl⟩
theorem RotD.right_none (a m : Nat) (d : Array Cl) : RotD a m m d d :=
  ⟨rfl, fun t h1 h2 => by omega, fun t _ _ => ix (by omega), fun _ _ => rfl⟩
theorem RotD.more {m i j : Nat} {d dk f : Array Cl} (hj : j < i) (hi : i ≤ m) (h : SwR (m - i) m j d dk) (k : RotD (m - i + j) m (m + j) dk f) : RotD (m - i) m (m + j) d f := by
  refine ⟨k.size.trans h.size, fun t h1 h2 => ?_, fun t h1 h2 => ?_, fun t h1 => ?_⟩
  · rw [k.rest t (by omega), ix (show t = m - i + (t - (m - i)) by omega), h.left _ (by omega)]
    exact ix (by omega)
  · by_cases e : t < m - i + j + j
    · rw [k.low t (by omega) (by omega), ix (show t + (m - (m - i + j)) = m + (t + i - j - m) by omega), h.right _ (by omega)]
      exact ix (by omega)
    · rw [k.high t (by omega) (by omega), h.rest _ (by omega) (by omega)]
  · rw [k.rest t (by omega), h.rest t (by omega) (by omega)]
theorem RotD.less {m i j : Nat} {d dk f : Array Cl} (hj : i < j) (hi : i ≤ m) (h : SwR (m - i) (m + j - i) i d dk) (k : RotD (m - i) m (m + j - i) dk f) : RotD (m - i) m (m + j) d f := by
  refine ⟨k.size.trans h.size, fun t h1 h2 => ?_, fun t h1 h2 => ?_, fun t h1 => ?_⟩
  · by_cases e : t < m - i + (j - i)
    · rw [k.low t (by omega) (by omega), h.rest _ (by omega) (by omega)]
    · rw [k.high t (by omega) (by omega), ix (show t - (m + j - i - m) = m - i + (t - (j - i) - (m - i)) by omega), h.left _ (by omega)]
      exact ix (by omega)
  · rw [k.rest t (by omega), ix (show t = m + j - i + (t - (m + j - i)) by omega), h.right _ (by omega)]
    exact ix (by omega)
  · rw [k.rest t (by omega), h.rest t (by omega) (by omega)]
theorem RotD.even {m i : Nat} {d f : Array Cl} (hi : i ≤ m) (h : SwR (m - i) m i d f) : RotD (m - i) m (m + i) d f := by
  refine ⟨h.size, fun t h1 h2 => ?_, fun t h1 h2 => ?_, fun t h1 => h.rest t (by omega) (by omega)⟩
  · rw [ix (show t = m - i + (t - (m - i)) by omega), h.left _ (by omega)]
    exact ix (by omega)
  · rw [ix (show t = m + (t - m) by omega), h.right _ (by omega)]
    exact ix (by omega)
theorem RotD.up {a k : Nat} {d dk : Array Cl} (h : RotD a (a + 1) (k + 1) d dk) (hk : a ≤ k) (hs : k + 1 < d.size) : RotD a (a + 1) (k + 2) d (swp dk k (k + 1)) := by
  have hz := h.size
  refine ⟨by rw [size_swp]; exact hz, fun t h1 h2 => ?_, fun t h1 h2 => ?_, fun t h1 => ?_⟩
  · by_cases e : t = k
    · subst e
      rw [swp_left _ _ _ (by omega) (by omega), h.rest _ (by omega)]
      exact ix (by omega)
    · rw [swp_other _ _ _ _ (by omega) (by omega), h.low t (by omega) (by omega)]
  · obtain rfl : t = k + 1 := by omega
    rw [swp_right _ _ _ (by omega), h.high k (by omega) (by omega)]
    exact ix (by omega)
  · rw [swp_other _ _ _ _ (by omega) (by omega), h.rest t (by omega)]
theorem RotD.down {m k : Nat} {d dk : Array Cl} (h : RotD (k + 1) m (m + 1) d dk) (hk : k + 1 ≤ m) (hs : m < d.size) : RotD k m (m + 1) d (swp dk (k + 1) k) := by
  have hz := h.size
  refine ⟨by rw [size_swp]; exact hz, fun t h1 h2 => ?_, fun t h1 h2 => ?_, fun t h1 => ?_⟩
  · obtain rfl : t = k := by omega
    rw [swp_right _ _ _ (by omega), h.low (t + 1) (by omega) (by omega)]
    exact ix (by omega)
  · by_cases e : t = k + 1
    · subst e
      rw [swp_left _ _ _ (by omega) (by omega), h.rest k (by omega)]
      exact ix (by omega)
    · rw [swp_other _ _ _ _ (by omega) (by omega), h.high t (by omega) (by omega)]
  · rw [swp_other _ _ _ _ (by omega) (by omega), h.rest t (by omega)]
theorem RotD.perm {a m b : Nat} {d d' : Array Cl} (h : RotD a m b d d') (h1 : a ≤ m) (h2 : m ≤ b) (hb : b ≤ d.size) : PermIn a b d d' := by
  refine ⟨h.size, h.rest, ?_⟩
  rw [extract_toList _ _ _ (by rw [h.size]; exact hb), extract_toList _ _ _ hb]
  have e1 : (List.range' a (b - a)).map (fun i => d'[i]!) = (List.range' m (b - m)).map (fun i => d[i]!) ++ (List.range' a (m - a)).map (fun i => d[i]!) := by
    apply List.ext_getElem
    · simp; omega
    · intro i g1 g2
      simp only [List.length_map, List.length_range'] at g1
      by_cases e : i < b - m
      · rw [List.getElem_append_left (by simpa using e)]
        simp only [List.getElem_map, List.getElem_range']
        rw [h.low _ (by omega) (by omega)]
        exact ix (by omega)
      · rw [List.getElem_append_right (by simp; omega)]
        simp only [List.getElem_map, List.getElem_range', List.length_map, List.length_range']
        rw [h.high _ (by omega) (by omega)]
        exact ix (by omega)
  have e2 : (List.range' a (b - a)).map (fun i => d[i]!) = (List.range' a (m - a)).map (fun i => d[i]!) ++ (List.range' m (b - m)).map (fun i => d[i]!) := by
    rw [← List.map_append]
    have e3 : List.range' a (b - a) = List.range' a (m - a) ++ List.range' m (b - m) := by
      have := List.range'_append (s := a) (m := m - a) (n := b - m) (step := 1)
      rw [show a + 1 * (m - a) = m by omega, show m - a + (b - m) = b - a by omega] at this
      exact this.symm
    rw [e3]
  rw [e1, e2]
  exact List.perm_append_comm

/-- all places of the left part are ahead of all of the right one -/
def Cross (a m b : Nat) (d : Array Cl) : Prop := ∀ x y, a ≤ x → x < m → m ≤ y → y < b → d[x]!.p < d[y]!.p
structure MPre (a m b : Nat) (d : Array Cl) : Prop where
  l : SortedIn tB a m d
  r : SortedIn tB m b d
  c : Cross a m b d
theorem le_of {d : Array Cl} {a b i j : Nat} (h : SortedIn tB a b d) (h1 : a ≤ i) (h2 : i ≤ j) (h3 : j < b) : tB d[j]! d[i]! = false := by
  rcases Nat.lt_or_eq_of_le h2 with h4 | rfl
  · exact h i j h1 h4 h3
  · exact swoT.irrefl _
/-- one on the left, merged -/
theorem merge_one_left {a i b : Nat} {d d' : Array Cl} (h : MPre a (a + 1) b d) (hr : RotD a (a + 1) i d d') (hi : a + 1 ≤ i) (hib : i ≤ b)
    (h1 : a + 1 < i → tB d[i - 1]! d[a]! = true) (h2 : i < b → tB d[i]! d[a]! = false) : SortedIn tB a b d' := by
  have hx : ∀ q, a + 1 ≤ q → q < i → tB d[a]! d[q]! = false := fun q g1 g2 =>
    swoT.ntrans _ d[i - 1]! _ (tB_asymm (h1 (by omega))) (le_of h.r g1 (by omega) (by omega))
  have hy : ∀ q, i ≤ q → q < b → tB d[q]! d[a]! = false := fun q g1 g2 =>
    swoT.ntrans _ d[i]! _ (le_of h.r (by omega) g1 g2) (h2 (by omega))
  intro x y g1 g2 g3
  have lo : ∀ t, a ≤ t → t < i - 1 → d'[t]! = d[t + 1]! := fun t q1 q2 => by rw [hr.low t q1 (by omega)]; exact ix (by omega)
  have mi : d'[i - 1]! = d[a]! := by rw [hr.high (i - 1) (by omega) (by omega)]; exact ix (by omega)
  have hh : ∀ t, i ≤ t → d'[t]! = d[t]! := fun t q => hr.rest t (by omega)
  by_cases e1 : y < i - 1
  · rw [lo x g1 (by omega), lo y (by omega) e1]
    exact h.r _ _ (by omega) (by omega) (by omega)
  · by_cases e2 : y = i - 1
    · rw [e2, mi, lo x g1 (by omega)]
      exact hx _ (by omega) (by omega)
    · rw [hh y (by omega)]
      by_cases e3 : x < i - 1
      · rw [lo x g1 e3]
        exact h.r _ _ (by omega) (by omega) g3
      · by_cases e4 : x = i - 1
        · rw [e4, mi]
          exact hy y (by omega) g3
        · rw [hh x (by omega)]
          exact h.r _ _ (by omega) g2 g3
/-- one on the right, merged -/
theorem merge_one_right {a i m : Nat} {d d' : Array Cl} (h : MPre a m (m + 1) d) (hr : RotD i m (m + 1) d d') (hi : a ≤ i) (hib : i ≤ m)
    (h1 : a < i → tB d[m]! d[i - 1]! = false) (h2 : i < m → tB d[m]! d[i]! = true) : SortedIn tB a (m + 1) d' := by
  have hx : ∀ q, a ≤ q → q < i → tB d[m]! d[q]! = false := fun q g1 g2 =>
    swoT.ntrans _ d[i - 1]! _ (h1 (by omega)) (le_of h.l g1 (by omega) (by omega))
  have hy : ∀ q, i ≤ q → q < m → tB d[q]! d[m]! = false := fun q g1 g2 =>
    swoT.ntrans _ d[i]! _ (le_of h.l hi g1 g2) (tB_asymm (h2 (by omega))) |> fun _ => by
      have t1 := tB_asymm (h2 (by omega))
      cases e : tB d[q]! d[m]!
      · rfl
      · have := swoT.trans _ _ _ e (h2 (by omega))
        rw [le_of h.l hi g1 g2] at this
        cases this
  intro x y g1 g2 g3
  have lo : ∀ t, t < i → d'[t]! = d[t]! := fun t q => hr.rest t (by omega)
  have mi : d'[i]! = d[m]! := by rw [hr.low i (by omega) (by omega)]; exact ix (by omega)
  have hh : ∀ t, i < t → t < m + 1 → d'[t]! = d[t - 1]! := fun t q1 q2 => by rw [hr.high t (by omega) (by omega)]; exact ix (by omega)
  by_cases e1 : y < i
  · rw [lo x (by omega), lo y e1]
    exact h.l _ _ g1 g2 (by omega)
  · by_cases e2 : y = i
    · rw [e2, mi, lo x (by omega)]
      exact hx x g1 (by omega)
    · rw [hh y (by omega) g3]
      by_cases e3 : x < i
      · rw [lo x e3]
        exact h.l _ _ g1 (by omega) (by omega)
      · by_cases e4 : x = i
        · rw [e4, mi]
          exact hy _ (by omega) (by omega)
        · rw [hh x (by omega) (by omega)]
          exact h.l _ _ (by omega) (by omega) (by omega)
end Go.Proofs.Ytgcobajekffmoac
