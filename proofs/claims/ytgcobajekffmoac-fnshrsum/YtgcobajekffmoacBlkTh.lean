/-
  PROVED HERE: plain theory of a sort by blocks that are merged: what stands in one block is sorted, what stands in two keeps its places' order; no program.
-/
import Derived.Test.YtgcobajekffmoacMergeTh
namespace Go.Proofs.Ytgcobajekffmoac
open Go.Sort

/-- what is of one part is sorted; of two parts the places ascend -/
def Seg (n : Nat) (T : Nat → Nat → Prop) (d : Array Cl) : Prop := ∀ x y, x < y → y < n → (T x y → tB d[y]! d[x]! = false) ∧ (¬ T x y → d[x]!.p < d[y]!.p)
theorem Seg.iff {n : Nat} {T U : Nat → Nat → Prop} {d : Array Cl} (h : Seg n T d) (hh : ∀ x y, x < y → y < n → (T x y ↔ U x y)) : Seg n U d := fun x y g1 g2 =>
  ⟨fun q => (h x y g1 g2).1 ((hh x y g1 g2).2 q), fun q => (h x y g1 g2).2 (fun r => q ((hh x y g1 g2).1 r))⟩
theorem Seg.join {n a b : Nat} {T : Nat → Nat → Prop} {d d' : Array Cl} (h : Seg n T d) (hn : n ≤ d.size) (hb : b ≤ n) (hp : PermIn a b d d') (hs : SortedIn tB a b d')
    (h1 : ∀ x y, x < a → a ≤ y → y < b → ¬ T x y) (h2 : ∀ x y, a ≤ x → x < b → b ≤ y → y < n → ¬ T x y) : Seg n (fun x y => T x y ∨ (a ≤ x ∧ y < b)) d' := by
  intro x y g1 g2
  have out : ∀ t, t < a ∨ b ≤ t → d'[t]! = d[t]! := hp.2.1
  by_cases c1 : a ≤ x
  · by_cases c2 : y < b
    · exact ⟨fun _ => hs x y c1 g1 c2, fun q => absurd (Or.inr ⟨c1, c2⟩) q⟩
    · by_cases c3 : x < b
      · refine ⟨fun q => ?_, fun _ => ?_⟩
        · rcases q with q | q
          · exact absurd q (h2 x y c1 c3 (by omega) g2)
          · exact absurd q.2 c2
        · rw [out y (by omega)]
          exact permIn_all d d' a b (fun z => z.p < d[y]!.p) (by omega) hp (fun r r1 r2 => (h r y (by omega) g2).2 (h2 r y r1 r2 (by omega) g2)) x c1 c3
      · rw [out x (by omega), out y (by omega)]
        exact ⟨fun q => (h x y g1 g2).1 (by rcases q with q | q; exact q; omega), fun q => (h x y g1 g2).2 (fun r => q (Or.inl r))⟩
  · by_cases c2 : a ≤ y ∧ y < b
    · refine ⟨fun q => ?_, fun _ => ?_⟩
      · rcases q with q | q
        · exact absurd q (h1 x y (by omega) c2.1 c2.2)
        · omega
      · rw [out x (by omega)]
        exact permIn_all d d' a b (fun z => d[x]!.p < z.p) (by omega) hp (fun r r1 r2 => (h x r (by omega) (by omega)).2 (h1 x r (by omega) r1 r2)) y c2.1 c2.2
    · rw [out x (by omega), out y (by omega)]
      exact ⟨fun q => (h x y g1 g2).1 (by rcases q with q | q; exact q; omega), fun q => (h x y g1 g2).2 (fun r => q (Or.inl r))⟩
/-- the first a are in blocks of s, the others alone -/
def T1 (a : Nat) (x y : Nat) : Prop := y < a ∧ x / 20 = y / 20
/-- the first a are in blocks of 2 s, the others in blocks of s -/
def T2 (s a : Nat) (x y : Nat) : Prop := (y < a ∧ x / (2 * s) = y / (2 * s)) ∨ (a ≤ x ∧ x / s = y / s)
theorem seg_start {n : Nat} {d : Array Cl} (h : Asc 0 n d) : Seg n (T1 0) d := fun x y g1 g2 => ⟨fun q => absurd q.1 (Nat.not_lt_zero _), fun _ => h x y (Nat.zero_le _) g1 g2⟩
theorem asc_of_seg {n a b : Nat} {d : Array Cl} (h : Seg n (T1 a) d) (hb : b ≤ n) : Asc a b d := fun x y g1 g2 g3 => (h x y g2 (by omega)).2 (fun q => by have := q.1; omega)
theorem seg_ins {n a : Nat} {d d' : Array Cl} (h : Seg n (T1 a) d) (hn : n ≤ d.size) (ha : a % 20 = 0) (hb : a + 20 ≤ n) (hp : PermIn a (a + 20) d d') (hs : SortedIn tB a (a + 20) d') : Seg n (T1 (a + 20)) d' :=
  (h.join hn hb hp hs (fun x y _ g2 _ q => by have := q.1; omega) (fun x y g1 g2 g3 _ q => by have := q.1; omega)).iff (fun x y g1 g2 => by unfold T1; omega)
theorem seg_ins_end {n a : Nat} {d d' : Array Cl} (h : Seg n (T1 a) d) (hn : n ≤ d.size) (ha : a % 20 = 0) (han : a ≤ n) (hb : n < a + 20) (hp : PermIn a n d d') (hs : SortedIn tB a n d') : Seg n (T2 20 0) d' :=
  (h.join hn (Nat.le_refl _) hp hs (fun x y _ g2 _ q => by have := q.1; omega) (fun x y g1 g2 g3 _ q => by have := q.1; omega)).iff (fun x y g1 g2 => by unfold T1 T2; omega)
theorem pre_of_seg {n s a m b : Nat} {d : Array Cl} (hs : s = 20 ∨ s = 40 ∨ s = 80) (h : Seg n (T2 s a) d) (ha : a % (2 * s) = 0) (hm : m = a + s) (hmb : m ≤ b) (hb : b ≤ n) (hb2 : b ≤ a + 2 * s) : MPre a m b d := by
  subst hm
  rcases hs with rfl | rfl | rfl
  all_goals
    refine ⟨fun x y g1 g2 g3 => ?_, fun x y g1 g2 g3 => ?_, fun x y g1 g2 g3 g4 => ?_⟩
    · exact (h x y g2 (by omega)).1 (by unfold T2; omega)
    · exact (h x y g2 (by omega)).1 (by unfold T2; omega)
    · exact (h x y (by omega) (by omega)).2 (by unfold T2; omega)
theorem seg_merge {n s a b : Nat} {d d' : Array Cl} (hs : s = 20 ∨ s = 40 ∨ s = 80) (h : Seg n (T2 s a) d) (hn : n ≤ d.size) (ha : a % (2 * s) = 0) (hb : b = a + 2 * s) (hbn : b ≤ n) (hp : PermIn a b d d') (hq : SortedIn tB a b d') : Seg n (T2 s b) d' := by
  subst hb
  rcases hs with rfl | rfl | rfl
  all_goals exact (h.join hn hbn hp hq (fun x y g1 g2 g3 q => by unfold T2 at q; omega) (fun x y g1 g2 g3 g4 q => by unfold T2 at q; omega)).iff (fun x y g1 g2 => by unfold T2; omega)
theorem seg_merge_end {n s a : Nat} {d d' : Array Cl} (hs : s = 20 ∨ s = 40 ∨ s = 80) (h : Seg n (T2 s a) d) (hn : n ≤ d.size) (ha : a % (2 * s) = 0) (h1 : a ≤ n) (hbn : n < a + 2 * s) (hp : PermIn a n d d') (hq : SortedIn tB a n d') : Seg n (T2 (2 * s) 0) d' := by
  rcases hs with rfl | rfl | rfl
  all_goals exact (h.join hn (Nat.le_refl _) hp hq (fun x y g1 g2 g3 q => by unfold T2 at q; omega) (fun x y g1 g2 g3 g4 q => by unfold T2 at q; omega)).iff (fun x y g1 g2 => by unfold T2; omega)
theorem seg_pass {n s a : Nat} {d : Array Cl} (hs : s = 20 ∨ s = 40 ∨ s = 80) (h : Seg n (T2 s a) d) (ha : a % (2 * s) = 0) (h1 : a ≤ n) (h2 : n ≤ a + s) : Seg n (T2 (2 * s) 0) d := by
  rcases hs with rfl | rfl | rfl
  all_goals exact h.iff (fun x y g1 g2 => by unfold T2; omega)
theorem seg_sorted {n s : Nat} {d : Array Cl} (hs : s = 20 ∨ s = 40 ∨ s = 80 ∨ s = 160) (h : Seg n (T2 s 0) d) (hn : n ≤ s) : SortedIn tB 0 n d := by
  intro x y g1 g2 g3
  refine (h x y g2 g3).1 ?_
  rcases hs with rfl | rfl | rfl | rfl
  all_goals (unfold T2; omega)
end Go.Proofs.Ytgcobajekffmoac
