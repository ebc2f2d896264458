/-
  PROVED HERE: rects of which no two are at one place, within a rect, have no more area than it: counted place by place.
-/
import Derived.Test.YtcbibdhlkdcmiaiKit
namespace Go.Proofs.Ytcbibdhlkdcmiai
open Go.RowKit

/-- f 0 + .. + f (n - 1) -/
def sumR (f : Nat → Nat) : Nat → Nat
  | 0 => 0
  | n + 1 => sumR f n + f n
theorem sumR_le {f g : Nat → Nat} : ∀ {n : Nat}, (∀ i, i < n → f i ≤ g i) → sumR f n ≤ sumR g n
  | 0, _ => Nat.le_refl _
  | n + 1, h => Nat.add_le_add (sumR_le (fun i hi => h i (by omega))) (h n (by omega))
theorem sumR_eq {f g : Nat → Nat} : ∀ {n : Nat}, (∀ i, i < n → f i = g i) → sumR f n = sumR g n
  | 0, _ => rfl
  | n + 1, h => by rw [sumR, sumR, sumR_eq (fun i hi => h i (by omega)), h n (by omega)]
theorem sumR_const (c : Nat) : ∀ n, sumR (fun _ => c) n = n * c
  | 0 => by simp [sumR]
  | n + 1 => by rw [sumR, sumR_const c n, Nat.succ_mul]
theorem sumR_add (f g : Nat → Nat) : ∀ n, sumR (fun i => f i + g i) n = sumR f n + sumR g n
  | 0 => rfl
  | n + 1 => by rw [sumR, sumR, sumR, sumR_add f g n]; omega
theorem sumR_mul (c : Nat) (f : Nat → Nat) : ∀ n, sumR (fun i => c * f i) n = c * sumR f n
  | 0 => by simp [sumR]
  | n + 1 => by rw [sumR, sumR, sumR_mul c f n, Nat.mul_add]
theorem sumR_mul' (c : Nat) (f : Nat → Nat) (n : Nat) : sumR (fun i => f i * c) n = sumR f n * c := by
  rw [Nat.mul_comm, ← sumR_mul]
  exact sumR_eq (fun i _ => Nat.mul_comm _ _)
def inI (a w i : Nat) : Nat := if a ≤ i ∧ i < a + w then 1 else 0
theorem sumR_in (a w : Nat) : ∀ n, sumR (inI a w) n = min n (a + w) - min n a
  | 0 => by simp [sumR]
  | n + 1 => by
    rw [sumR, sumR_in a w n]
    unfold inI
    split <;> omega
/-- how much there is at a place -/
def atP (q : Nat × Nat × Nat × Nat) (i j : Nat) : Nat := inI q.1 q.2.2.1 i * inI q.2.1 q.2.2.2 j
def listS (f : Nat × Nat × Nat × Nat → Nat) : List (Nat × Nat × Nat × Nat) → Nat
  | [] => 0
  | q :: l => f q + listS f l
theorem swapS (f : Nat × Nat × Nat × Nat → Nat → Nat) (n : Nat) : ∀ l, listS (fun q => sumR (f q) n) l = sumR (fun i => listS (fun q => f q i) l) n
  | [] => by
    show 0 = sumR (fun _ => 0) n
    rw [sumR_const]
    simp
  | q :: l => by
    rw [listS, swapS f n l, ← sumR_add]
    exact sumR_eq (fun i _ => rfl)
theorem listS_eq {f g : Nat × Nat × Nat × Nat → Nat} : ∀ {l}, (∀ q ∈ l, f q = g q) → listS f l = listS g l
  | [], _ => rfl
  | q :: l, h => by rw [listS, listS, h q (List.mem_cons_self ..), listS_eq (fun p hp => h p (List.mem_cons_of_mem _ hp))]
def apartN (a b : Nat × Nat × Nat × Nat) : Prop := a.1 + a.2.2.1 ≤ b.1 ∨ b.1 + b.2.2.1 ≤ a.1 ∨ a.2.1 + a.2.2.2 ≤ b.2.1 ∨ b.2.1 + b.2.2.2 ≤ a.2.1
theorem one_at {l : List (Nat × Nat × Nat × Nat)} (i j : Nat) : l.Pairwise apartN → listS (fun q => atP q i j) l ≤ 1 := by
  induction l with
  | nil => intro _; exact Nat.zero_le _
  | cons q l ih =>
    intro h
    rw [List.pairwise_cons] at h
    rw [listS]
    have h0 : atP q i j ≤ 1 := by
      unfold atP inI
      split <;> split <;> omega
    by_cases hq : atP q i j = 0
    · have := ih h.2; omega
    · have hz : listS (fun q => atP q i j) l = 0 := by
        have : ∀ p ∈ l, atP p i j = 0 := fun p hp => by
          have hap := h.1 p hp
          unfold apartN at hap
          unfold atP inI at hq ⊢
          split at hq
          · split at hq
            · split
              · split
                · exfalso; omega
                · rfl
              · simp
            · simp at hq
          · simp at hq
        rw [listS_eq (g := fun _ => 0) this]
        clear this ih h hq h0
        induction l with
        | nil => rfl
        | cons a l ih => rw [listS, ih]
      omega
theorem pack {l : List (Nat × Nat × Nat × Nat)} {W H : Nat} (hp : l.Pairwise apartN) (hb : ∀ q ∈ l, q.1 + q.2.2.1 ≤ W ∧ q.2.1 + q.2.2.2 ≤ H) : listS (fun q => q.2.2.1 * q.2.2.2) l ≤ W * H := by
  have e1 : listS (fun q => q.2.2.1 * q.2.2.2) l = listS (fun q => sumR (fun i => sumR (fun j => atP q i j) H) W) l := listS_eq (fun q hq => by
    obtain ⟨h1, h2⟩ := hb q hq
    have h3 : ∀ i, sumR (fun j => atP q i j) H = inI q.1 q.2.2.1 i * q.2.2.2 := fun i => by
      unfold atP
      rw [sumR_mul, sumR_in]
      congr 1
      omega
    rw [sumR_eq (fun i _ => h3 i), sumR_mul', sumR_in]
    congr 1
    omega)
  rw [e1, swapS]
  refine Nat.le_trans (sumR_le (g := fun _ => H) (fun i _ => ?_)) (by rw [sumR_const]; exact Nat.le_refl _)
  rw [swapS]
  refine Nat.le_trans (sumR_le (g := fun _ => 1) (fun j _ => one_at i j hp)) ?_
  rw [sumR_const]
  omega
end Go.Proofs.Ytcbibdhlkdcmiai
