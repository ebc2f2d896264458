/-
  PROVED HERE: plain theory of a merge in place of claims: what stands behind a rotation; what two halves make; no program.
-/
import Derived.Test.YtgcobajekffmoacRotTh
namespace Go.Proofs.Ytgcobajekffmoac
open Go.Sort

theorem after_rot {a m b s e mid : Nat} {d d1 : Array Cl} (h : MPre a m b d) (hr : RotD s m e d d1) (ha : a ≤ s) (hs : s ≤ m) (hm : m ≤ e) (he : e ≤ b) (hmid : s + e = mid + m)
    (hLo : a < s → e < b → tB d[e]! d[s - 1]! = false) (hHi : s < m → m < e → tB d[e - 1]! d[s]! = true) :
    MPre a s mid d1 ∧ MPre mid e b d1 ∧ ∀ x y, a ≤ x → x < mid → mid ≤ y → y < b → tB d1[y]! d1[x]! = false := by
  have p1 : ∀ t, t < s → d1[t]! = d[t]! := fun t q => hr.rest t (by omega)
  have p2 : ∀ t, s ≤ t → t < mid → d1[t]! = d[t + (m - s)]! := fun t q1 q2 => hr.low t q1 (by omega)
  have p3 : ∀ t, mid ≤ t → t < e → d1[t]! = d[t - (e - m)]! := fun t q1 q2 => hr.high t (by omega) q2
  have p4 : ∀ t, e ≤ t → d1[t]! = d[t]! := fun t q => hr.rest t (by omega)
  refine ⟨⟨?_, ?_, ?_⟩, ⟨?_, ?_, ?_⟩, ?_⟩
  · intro x y g1 g2 g3
    rw [p1 x (by omega), p1 y g3]
    exact h.l x y g1 g2 (by omega)
  · intro x y g1 g2 g3
    rw [p2 x g1 (by omega), p2 y (by omega) g3]
    exact h.r _ _ (by omega) (by omega) (by omega)
  · intro x y g1 g2 g3 g4
    rw [p1 x g2, p2 y g3 g4]
    exact h.c _ _ g1 (by omega) (by omega) (by omega)
  · intro x y g1 g2 g3
    rw [p3 x g1 (by omega), p3 y (by omega) g3]
    exact h.l _ _ (by omega) (by omega) (by omega)
  · intro x y g1 g2 g3
    rw [p4 x g1, p4 y (by omega)]
    exact h.r _ _ (by omega) g2 g3
  · intro x y g1 g2 g3 g4
    rw [p3 x g1 g2, p4 y g3]
    exact h.c _ _ (by omega) (by omega) (by omega) g4
  · intro x y g1 g2 g3 g4
    by_cases e1 : x < s
    · rw [p1 x e1]
      by_cases e2 : y < e
      · rw [p3 y g3 e2]
        exact h.l _ _ g1 (by omega) (by omega)
      · rw [p4 y (by omega)]
        exact swoT.ntrans _ d[e]! _ (le_of h.r hm (by omega) g4) (swoT.ntrans _ d[s - 1]! _ (hLo (by omega) (by omega)) (le_of h.l g1 (by omega) (by omega)))
    · rw [p2 x (by omega) g2]
      by_cases e2 : y < e
      · rw [p3 y g3 e2]
        have t1 := hHi (by omega) (by omega)
        have t2 := le_of h.r (show m ≤ x + (m - s) by omega) (show x + (m - s) ≤ e - 1 by omega) (by omega)
        have t3 := le_of h.l (show a ≤ s by omega) (show s ≤ y - (e - m) by omega) (by omega)
        cases e3 : tB d[y - (e - m)]! d[x + (m - s)]!
        · rfl
        · exfalso
          have t4 := swoT.ntrans _ _ _ t2 (tB_asymm e3)
          have t5 := swoT.ntrans _ _ _ t4 t3
          rw [t1] at t5
          cases t5
      · rw [p4 y (by omega)]
        exact h.r _ _ (by omega) (by omega) g4
theorem MPre.kept {a m b c : Nat} {d d' : Array Cl} (h : MPre a m b d) (ham : a ≤ m) (hp : PermIn c a d d') : MPre a m b d' := by
  have e : ∀ t, a ≤ t → d'[t]! = d[t]! := fun t q => hp.2.1 t (Or.inr q)
  refine ⟨fun x y g1 g2 g3 => ?_, fun x y g1 g2 g3 => ?_, fun x y g1 g2 g3 g4 => ?_⟩
  · rw [e x g1, e y (by omega)]; exact h.l x y g1 g2 g3
  · rw [e x (by omega), e y (by omega)]; exact h.r x y g1 g2 g3
  · rw [e x g1, e y (by omega)]; exact h.c x y g1 g2 g3 g4
theorem merge_end {a mid b : Nat} {d1 d2 d3 : Array Cl} (h1 : a ≤ mid) (h2 : mid ≤ b) (hb : b ≤ d1.size) (hA : ∀ x y, a ≤ x → x < mid → mid ≤ y → y < b → tB d1[y]! d1[x]! = false)
    (p2 : PermIn a mid d1 d2) (s2 : SortedIn tB a mid d2) (p3 : PermIn mid b d2 d3) (s3 : SortedIn tB mid b d3) : PermIn a b d1 d3 ∧ SortedIn tB a b d3 := by
  have z2 := p2.1
  refine ⟨permIn_trans _ _ _ a b (permIn_mono _ _ a mid a b (Nat.le_refl _) h2 hb p2) (permIn_mono _ _ mid b a b h1 (Nat.le_refl _) (by omega) p3), fun x y g1 g2 g3 => ?_⟩
  by_cases e1 : y < mid
  · rw [p3.2.1 x (by omega), p3.2.1 y (by omega)]
    exact s2 x y g1 g2 e1
  · by_cases e2 : mid ≤ x
    · exact s3 x y e2 g2 g3
    · rw [p3.2.1 x (by omega)]
      refine permIn_all d2 d3 mid b (fun z => tB z d2[x]! = false) (by omega) p3 (fun q q1 q2 => ?_) y (by omega) g3
      show tB d2[q]! d2[x]! = false
      rw [p2.2.1 q (by omega)]
      exact permIn_all d1 d2 a mid (fun z => tB d1[q]! z = false) (by omega) p2 (fun r r1 r2 => hA r q r1 r2 q1 q2) x g1 (by omega)
end Go.Proofs.Ytgcobajekffmoac
