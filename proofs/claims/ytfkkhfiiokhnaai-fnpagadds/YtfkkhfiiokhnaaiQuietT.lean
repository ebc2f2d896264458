/-
  PROVED HERE: a region that draws its order, whose first operations only read (their callees turn nothing that was in memory), and whose next one waits for all of them: the first ones may be walked once, in the text's order; what follows is walked in every order.
-/
import Derived.Test.YtfkkhfiiokhnaaiQuietL
namespace Go.Proofs.Ytfkkhfiiokhnaai
open Go.RowKit

section
variable {P : Program} {ops : Array Oper} {C : World → Prop}
/-- the first k operations have come up -/
def listedTo (n : Nat) : Nat → Array Bool
  | 0 => Array.replicate n false
  | k + 1 => (listedTo n k).setIfInBounds k true
def wpAnyT (P : Program) (ops : Array Oper) (C : World → Prop) (Q : Exit → Act → World → Prop) (z : Nat) : Nat → Array Bool → Act → Prop
  | 0, _, _ => False
  | fuel + 1, listed, a => Region.ready .any ops listed ≠ [] ∧ ∀ i ∈ Region.ready .any ops listed, if i = z then (∀ w, C w → wpOp P ops Q z (wpAny P .any ops Q fuel (listed.setIfInBounds z true)) a w) else qOp P ops C i (wpAnyT P ops C Q z fuel (listed.setIfInBounds i true)) a
theorem wpAny_of_T {Q : Exit → Act → World → Prop} {z : Nat} : ∀ (fuel : Nat) (listed : Array Bool) (a : Act) (w : World), C w → wpAnyT P ops C Q z fuel listed a → wpAny P .any ops Q fuel listed a w
  | 0, _, _, _, _, h => h.elim
  | fuel + 1, listed, a, w, hw, h => ⟨fun h0 => absurd h0 h.1, fun i hi => by
      have h2 := h.2 i hi
      by_cases hz : i = z
      · rw [if_pos hz] at h2
        subst hz
        exact h2 w hw
      · rw [if_neg hz] at h2
        exact wpOp_of_qOp hw (fun a' w' hw' => wpAny_of_T fuel _ a' w' hw') h2⟩
theorem wpAnyT_first {Q : Exit → Act → World → Prop} {z i : Nat} {oi : Oper} {v : Value} (hs : succB ops z = true) (hi : ops[i]? = some oi) (hiz : i < z) (hsel : ∀ (j : Nat) (o : Oper) cs b, ops[j]? = some o → o.op ≠ .select cs b) :
    ∀ (fuel : Nat) (listed : Array Bool) (a : Act), Closed ops (fun k => listed.getD k false) →
      (∀ j oj, ops[j]? = some oj → j ≠ i → listed.getD j true = false → (∀ e ∈ oj.after, Region.binds .any e = true → e.on ≠ i) → oi.apart ops oj = true) →
      i ∈ Region.ready .any ops listed → YieldsIn P ops C oi v a →
      wpAnyT P ops C Q z fuel (listed.setIfInBounds i true) (a.put oi.dst v) → wpAnyT P ops C Q z (fuel + 1) listed a := by
  intro fuel
  induction fuel with
  | zero => intro listed a _ _ _ _ H; exact H.elim
  | succ fuel ih =>
    intro listed a hcl hfree hr hy H
    refine ⟨fun h => (by rw [h] at hr; cases hr), fun j hj => ?_⟩
    by_cases hji : j = i
    · rw [if_neg (by omega)]; subst hji; exact hy.qOp hi H
    · have hjz : j ≠ z := fun e => by
        subst e
        obtain ⟨_, o, ho, ha⟩ := mem_ready.1 hj
        have h1 := all_ahead hs hcl ho ha _ i (Nat.le_refl _) hiz
        have h0 := (mem_ready.1 hr).1
        rcases Nat.lt_or_ge i listed.size with h' | h'
        · simp [h'] at h0 h1; rw [h0] at h1; cases h1
        · simp [Array.getElem?_eq_none h'] at h1
      rw [if_neg hjz]
      have h1 := H.2 j (ready_mono hj hji)
      rw [if_neg hjz] at h1
      obtain ⟨hjun, oj, hoj, hall⟩ := mem_ready.1 hj
      have hnot : ∀ e ∈ oj.after, Region.binds .any e = true → e.on ≠ i := fun e he hb heq => by
        have h1 := hall e he hb
        have h0 := (mem_ready.1 hr).1
        rw [heq] at h1
        rcases Nat.lt_or_ge i listed.size with h' | h'
        · simp [h'] at h0 h1; rw [h0] at h1; cases h1
        · simp [Array.getElem?_eq_none h'] at h1
      have h2 := qOp_put hoj (hfree j oj hoj hji hjun hnot) (fun cs b => hsel i oi cs b hi) (fun cs b => hsel j oj cs b hoj) hy h1
      have hfree' : ∀ k ok, ops[k]? = some ok → k ≠ i → (listed.setIfInBounds j true).getD k true = false →
          (∀ e ∈ ok.after, Region.binds .any e = true → e.on ≠ i) → oi.apart ops ok = true := fun k ok hk hki hun hno => by
        refine hfree k ok hk hki ?_ hno
        by_cases hjk : j = k
        · subst hjk; exact hjun
        · rw [getD_set_ne true hjk] at hun; exact hun
      refine qOp_mono (fun a' h3 => ih (listed.setIfInBounds j true) a' (closed_set hcl hj) hfree' (ready_mono hr (Ne.symm hji)) h3.1 ?_) h2
      rw [Array.setIfInBounds_comm _ _ hji]
      exact h3.2
theorem wpAnyT_lex {Q : Exit → Act → World → Prop} {n z f : Nat} (hns : Region.noSelect ops = true) (hs : succB ops z = true) (hz : Region.ready .any ops (listedTo n z) = [z]) : ∀ (l : List Oper) (k : Nat) (a : Act), k + l.length = z → (∀ j, j < l.length → l[j]? = ops[k + j]?) → Closed ops (fun j => (listedTo n k).getD j false) →
    Region.lexFrom .any ops (l.length + (f + 1)) k (listedTo n k) = true → wpQuiet P ops C (fun a' => ∀ w', C w' → wpOp P ops Q z (wpAny P .any ops Q f (listedTo n (z + 1))) a' w') l a → wpAnyT P ops C Q z (l.length + (f + 1)) (listedTo n k) a
  | [], k, a, hk, _, _, _, h => by
    have hk' : k = z := by simpa using hk
    subst hk'
    rw [List.length_nil, Nat.zero_add]
    refine ⟨by rw [hz]; simp, fun i hi => ?_⟩
    rw [hz] at hi
    have hik : i = k := by simpa using hi
    rw [if_pos hik]
    exact h
  | o :: l, k, a, hk, hl, hcl, hB, h => by
    have h0 : ops[k]? = some o := by simpa using (hl 0 (by simp)).symm
    simp only [List.length_cons] at hk hB ⊢
    rw [show l.length + 1 + (f + 1) = (l.length + (f + 1)) + 1 by omega] at hB ⊢
    rw [Region.lexFrom] at hB
    simp only [Bool.and_eq_true] at hB
    obtain ⟨⟨hr, hf⟩, hB'⟩ := hB
    have hr' : k ∈ Region.ready .any ops (listedTo n k) := by simpa using hr
    have hst : qOp P ops C k (wpQuiet P ops C (fun a' => ∀ w', C w' → wpOp P ops Q z (wpAny P .any ops Q f (listedTo n (z + 1))) a' w') l) a := by unfold qOp; simp only [h0]; exact h
    obtain ⟨v, hy, hK⟩ := yieldsIn_of_qOp h0 hst
    exact wpAnyT_first hs h0 (by omega) (Region.noSelect_spec hns) (l.length + (f + 1)) (listedTo n k) a hcl (Region.free_spec h0 hf) hr' hy
      (wpAnyT_lex hns hs hz l (k + 1) _ (by omega) (fun j hj => by have := hl (j + 1) (by simpa using hj); simpa [Nat.add_assoc, Nat.add_comm 1 j] using this) (closed_set hcl hr') hB' hK)
end
/-- the walk: what only reads in the text's order, then the rest -/
theorem wp_region_tail {P : Program} {id : Nat} {Q : Exit → Act → World → Prop} {a : Act} {w : World} {l : List Oper} (n f : Nat) {o : Oper} (hm : P.follows .mixedOrders = true) (hl : l.length = n + (f + 1)) (ho : l[n]? = some o) (hB : Region.lexB .any l.toArray = true) (hs : succB l.toArray n = true) (hz : Region.ready .any l.toArray (listedTo (n + (f + 1)) n) = [n])
    (h : wpQuiet P l.toArray (fun w' => ∃ p : BW w, w' = p.u) (fun a' => ∀ w', (∃ p : BW w, w' = p.u) → if Region.wanted o (yielded l.toArray a'.tmps) = true then o.wp P a' w' (wpAny P .any l.toArray Q f (listedTo (n + (f + 1)) (n + 1))) Q else wpAny P .any l.toArray Q f (listedTo (n + (f + 1)) (n + 1)) (a'.put o.dst undef) w') (l.take n) a) : (Code.region id l.toArray true).wp P Q a w := by
  simp only [Region.lexB, Bool.and_eq_true] at hB
  have hlt : (l.take n).length = n := by rw [List.length_take]; omega
  refine wp_region_any hm (wpAny_of_T (C := fun w' => ∃ p : BW w, w' = p.u) (z := n) _ _ _ _ ⟨⟨_, k_drew (Below.refl _ _)⟩, rfl⟩ ?_)
  have hcv : ∀ a', (∀ w', (∃ p : BW w, w' = p.u) → if Region.wanted o (yielded l.toArray a'.tmps) = true then o.wp P a' w' (wpAny P .any l.toArray Q f (listedTo (n + (f + 1)) (n + 1))) Q else wpAny P .any l.toArray Q f (listedTo (n + (f + 1)) (n + 1)) (a'.put o.dst undef) w') → ∀ w', (∃ p : BW w, w' = p.u) → wpOp P l.toArray Q n (wpAny P .any l.toArray Q f (listedTo (n + (f + 1)) (n + 1))) a' w' := by
    intro a' hR w' hw'
    have h1 := hR w' hw'
    unfold wpOp
    rw [show l.toArray[n]? = some o by simpa using ho]
    dsimp only
    split
    · rename_i hw; rw [if_pos hw] at h1; exact .inl h1
    · rename_i hw; rw [if_neg hw] at h1; exact h1
  have hmono : ∀ (q : List Oper) (b : Act), wpQuiet P l.toArray (fun w' => ∃ p : BW w, w' = p.u) (fun a' => ∀ w', (∃ p : BW w, w' = p.u) → if Region.wanted o (yielded l.toArray a'.tmps) = true then o.wp P a' w' (wpAny P .any l.toArray Q f (listedTo (n + (f + 1)) (n + 1))) Q else wpAny P .any l.toArray Q f (listedTo (n + (f + 1)) (n + 1)) (a'.put o.dst undef) w') q b → wpQuiet P l.toArray (fun w' => ∃ p : BW w, w' = p.u) (fun a' => ∀ w', (∃ p : BW w, w' = p.u) → wpOp P l.toArray Q n (wpAny P .any l.toArray Q f (listedTo (n + (f + 1)) (n + 1))) a' w') q b := by
    intro q
    induction q with
    | nil => intro b hb; exact hcv b hb
    | cons o q ih =>
      intro b hb
      simp only [wpQuiet] at hb ⊢
      split
      · rename_i hw; rw [if_pos hw] at hb; exact Oper.quiet_mono ih hb
      · rename_i hw; rw [if_neg hw] at hb; exact ih _ hb
  have := wpAnyT_lex (P := P) (Q := Q) (n := n + (f + 1)) (f := f) (C := fun w' => ∃ p : BW w, w' = p.u) hB.1 hs hz (l.take n) 0 a (by omega) (fun j hj => by rw [hlt] at hj; simp [hj]) (fun j i _ _ => by
    show (Array.replicate (n + (f + 1)) false).getD j false = false
    rw [Array.getD_eq_getD_getElem?, Array.getElem?_replicate]
    split <;> rfl) (by rw [hlt]; have h9 := hB.2; rw [show l.toArray.size = n + (f + 1) by simpa using hl] at h9; exact h9) (hmono _ _ h)
  rw [hlt] at this
  rw [show l.toArray.size = n + (f + 1) by simpa using hl]
  exact this
end Go.Proofs.Ytfkkhfiiokhnaai
