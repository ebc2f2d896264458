/-
  PROVED HERE: a region that draws its order, whose operations but the last one only read (their callees turn nothing that was in memory), and whose last operation waits for all others, may be walked once, in its text's order; the last operation may turn memory.
-/
import Derived.Test.YtfkkhfiiokhnaaiQuietB
import Derived.Test.YtfkkhfiiokhnaaiAnyInv2
namespace Go.Proofs.Ytfkkhfiiokhnaai
open Go.RowKit

section
variable {P : Program} {ops : Array Oper} {C : World → Prop}
/-- each operation ahead of z is waited for by a later one, up to z -/
def succB (ops : Array Oper) (z : Nat) : Bool := (List.range z).all fun i => (List.range (z + 1)).any fun j => decide (i < j) && edgeB ops j i
theorem all_ahead {z : Nat} {L : Nat → Bool} (hs : succB ops z = true) (hc : Closed ops L) {o : Oper} (ho : ops[z]? = some o) (ha : ∀ e ∈ o.after, Region.binds .any e = true → L e.on = true) : ∀ n i, z - i ≤ n → i < z → L i = true
  | 0, i, h, hi => by omega
  | n + 1, i, h, hi => by
    have h1 := List.all_eq_true.1 hs i (List.mem_range.2 hi)
    obtain ⟨j, hj, h2⟩ := List.any_eq_true.1 h1
    have hjz := List.mem_range.1 hj
    rw [Bool.and_eq_true] at h2
    obtain ⟨h3, h4⟩ := h2
    have h3 := of_decide_eq_true h3
    by_cases e : j = z
    · subst e
      unfold edgeB at h4
      rw [ho] at h4
      simp only [Option.map_some, Option.getD_some, List.any_eq_true, Bool.and_eq_true, beq_iff_eq] at h4
      obtain ⟨e, he1, he2, he3⟩ := h4
      have := ha e (by simpa using he1) he2
      rwa [he3] at this
    · have hLj := all_ahead hs hc ho ha n j (by omega) (by omega)
      cases hLi : L i with
      | true => rfl
      | false => rw [hc j i h4 hLi] at hLj; cases hLj
theorem closed_set {listed : Array Bool} {j : Nat} (h : Closed ops (fun k => listed.getD k false)) (hj : j ∈ Region.ready .any ops listed) : Closed ops (fun k => (listed.setIfInBounds j true).getD k false) := by
  obtain ⟨h0, o, ho, ha⟩ := mem_ready.1 hj
  have hlt : j < listed.size := by
    rcases Nat.lt_or_ge j listed.size with h' | h'
    · exact h'
    · rw [Array.getD_eq_getD_getElem?, Array.getElem?_eq_none h'] at h0
      cases h0
  rw [listed_set hlt]
  exact h.next ho ha
def wpAnyM (P : Program) (ops : Array Oper) (C : World → Prop) (z : Nat) (R : Act → Prop) : Nat → Array Bool → Act → Prop
  | 0, _, _ => False
  | fuel + 1, listed, a => Region.ready .any ops listed ≠ [] ∧ ∀ i ∈ Region.ready .any ops listed, if i = z then (fuel = 0 ∧ Region.ready .any ops (listed.setIfInBounds z true) = [] ∧ R a) else qOp P ops C i (wpAnyM P ops C z R fuel (listed.setIfInBounds i true)) a
theorem wpAny_of_M {Q : Exit → Act → World → Prop} {R : Act → Prop} {z : Nat} (hR : ∀ a w, C w → R a → wpOp P ops Q z (fun a' w' => Q .normal a' w') a w) : ∀ (fuel : Nat) (listed : Array Bool) (a : Act) (w : World), C w → wpAnyM P ops C z R fuel listed a → wpAny P .any ops Q fuel listed a w
  | 0, _, _, _, _, h => h.elim
  | fuel + 1, listed, a, w, hw, h => ⟨fun h0 => absurd h0 h.1, fun i hi => by
      have h2 := h.2 i hi
      by_cases hz : i = z
      · rw [if_pos hz] at h2
        obtain ⟨h3, hr, hRa⟩ := h2
        subst h3
        subst hz
        exact wpOp_mono (fun a' w' h' => ⟨hr, h'⟩) (hR a w hw hRa)
      · rw [if_neg hz] at h2
        exact wpOp_of_qOp hw (fun a' w' hw' => wpAny_of_M hR fuel _ a' w' hw') h2⟩
theorem wpAnyM_first {R : Act → Prop} {z i : Nat} {oi : Oper} {v : Value} (hs : succB ops z = true) (hi : ops[i]? = some oi) (hiz : i < z) (hsel : ∀ (j : Nat) (o : Oper) cs b, ops[j]? = some o → o.op ≠ .select cs b) :
    ∀ (fuel : Nat) (listed : Array Bool) (a : Act), Closed ops (fun k => listed.getD k false) →
      (∀ j oj, ops[j]? = some oj → j ≠ i → listed.getD j true = false → (∀ e ∈ oj.after, Region.binds .any e = true → e.on ≠ i) → oi.apart ops oj = true) →
      i ∈ Region.ready .any ops listed → YieldsIn P ops C oi v a →
      wpAnyM P ops C z R fuel (listed.setIfInBounds i true) (a.put oi.dst v) → wpAnyM P ops C z R (fuel + 1) listed a := by
  intro fuel
  induction fuel with
  | zero => intro listed a _ _ _ _ H; exact H.elim
  | succ fuel ih =>
    intro listed a hcl hfree hr hy H
    refine ⟨fun h => (by rw [h] at hr; cases hr), fun j hj => ?_⟩
    by_cases hji : j = i
    · rw [if_neg (by omega)]; subst hji; exact hy.qOp hi H
    · have hjz : j ≠ z := fun e => by
        subst e
        obtain ⟨_, o, ho, ha⟩ := mem_ready.1 hj
        have h1 := all_ahead hs hcl ho ha _ i (Nat.le_refl _) hiz
        have h0 := (mem_ready.1 hr).1
        rcases Nat.lt_or_ge i listed.size with h' | h'
        · simp [h'] at h0 h1; rw [h0] at h1; cases h1
        · simp [Array.getElem?_eq_none h'] at h1
      rw [if_neg hjz]
      have h1 := H.2 j (ready_mono hj hji)
      rw [if_neg hjz] at h1
      obtain ⟨hjun, oj, hoj, hall⟩ := mem_ready.1 hj
      have hnot : ∀ e ∈ oj.after, Region.binds .any e = true → e.on ≠ i := fun e he hb heq => by
        have h1 := hall e he hb
        have h0 := (mem_ready.1 hr).1
        rw [heq] at h1
        rcases Nat.lt_or_ge i listed.size with h' | h'
        · simp [h'] at h0 h1; rw [h0] at h1; cases h1
        · simp [Array.getElem?_eq_none h'] at h1
      have h2 := qOp_put hoj (hfree j oj hoj hji hjun hnot) (fun cs b => hsel i oi cs b hi) (fun cs b => hsel j oj cs b hoj) hy h1
      have hfree' : ∀ k ok, ops[k]? = some ok → k ≠ i → (listed.setIfInBounds j true).getD k true = false →
          (∀ e ∈ ok.after, Region.binds .any e = true → e.on ≠ i) → oi.apart ops ok = true := fun k ok hk hki hun hno => by
        refine hfree k ok hk hki ?_ hno
        by_cases hjk : j = k
        · subst hjk; exact hjun
        · rw [getD_set_ne true hjk] at hun; exact hun
      refine qOp_mono (fun a' h3 => ih (listed.setIfInBounds j true) a' (closed_set hcl hj) hfree' (ready_mono hr (Ne.symm hji)) h3.1 ?_) h2
      rw [Array.setIfInBounds_comm _ _ hji]
      exact h3.2
theorem wpAnyM_lex {R : Act → Prop} {z : Nat} (hns : Region.noSelect ops = true) (hs : succB ops z = true) : ∀ (l : List Oper) (k : Nat) (listed : Array Bool) (a : Act), k + l.length = z → (∀ j, j < l.length → l[j]? = ops[k + j]?) → Closed ops (fun k => listed.getD k false) →
    Region.lexFrom .any ops (l.length + 1) k listed = true → wpQuiet P ops C R l a → wpAnyM P ops C z R (l.length + 1) listed a
  | [], k, listed, a, hk, _, _, hB, h => by
    simp only [List.length_nil, Region.lexFrom, Bool.and_eq_true] at hB
    obtain ⟨⟨hr, _⟩, he⟩ := hB
    have hk' : k = z := by simpa using hk
    subst hk'
    have hr' : k ∈ Region.ready .any ops listed := by simpa using hr
    have he' : Region.ready .any ops (listed.setIfInBounds k true) = [] := by simpa using he
    refine ⟨fun h => (by rw [h] at hr'; cases hr'), fun i hi => ?_⟩
    by_cases hik : i = k
    · rw [if_pos hik]; exact ⟨rfl, he', h⟩
    · have := ready_mono hi hik
      rw [he'] at this
      cases this
  | o :: l, k, listed, a, hk, hl, hcl, hB, h => by
    have h0 : ops[k]? = some o := by simpa using (hl 0 (by simp)).symm
    simp only [List.length_cons] at hk hB ⊢
    rw [Region.lexFrom] at hB
    simp only [Bool.and_eq_true] at hB
    obtain ⟨⟨hr, hf⟩, hB'⟩ := hB
    have hr' : k ∈ Region.ready .any ops listed := by simpa using hr
    have hst : qOp P ops C k (wpQuiet P ops C R l) a := by unfold qOp; simp only [h0]; exact h
    obtain ⟨v, hy, hK⟩ := yieldsIn_of_qOp h0 hst
    exact wpAnyM_first hs h0 (by omega) (Region.noSelect_spec hns) (l.length + 1) listed a hcl (Region.free_spec h0 hf) hr' hy
      (wpAnyM_lex hns hs l (k + 1) _ _ (by omega) (fun j hj => by have := hl (j + 1) (by simpa using hj); simpa [Nat.add_assoc, Nat.add_comm 1 j] using this) (closed_set hcl hr') hB' hK)
end
/-- the walk: what only reads in the text's order, then the last operation -/
theorem wp_region_last {P : Program} {id : Nat} {Q : Exit → Act → World → Prop} {a : Act} {w : World} {l : List Oper} (n : Nat) {o : Oper} (hm : P.follows .mixedOrders = true) (hl : l.length = n + 1) (ho : l[n]? = some o) (hB : Region.lexB .any l.toArray = true) (hs : succB l.toArray n = true)
    (h : wpQuiet P l.toArray (fun w' => ∃ p : BW w, w' = p.u) (fun a' => ∀ w', (∃ p : BW w, w' = p.u) → if Region.wanted o (yielded l.toArray a'.tmps) = true then o.wp P a' w' (fun a w => Q .normal a w) Q else Q .normal (a'.put o.dst undef) w') (l.take n) a) : (Code.region id l.toArray true).wp P Q a w := by
  simp only [Region.lexB, Bool.and_eq_true] at hB
  have hlt : (l.take n).length = n := by rw [List.length_take]; omega
  refine wp_region_any hm (wpAny_of_M (C := fun w' => ∃ p : BW w, w' = p.u) (z := n) (R := fun a' => ∀ w', (∃ p : BW w, w' = p.u) → if Region.wanted o (yielded l.toArray a'.tmps) = true then o.wp P a' w' (fun a w => Q .normal a w) Q else Q .normal (a'.put o.dst undef) w') ?_ _ _ _ _ ⟨⟨_, k_drew (Below.refl _ _)⟩, rfl⟩ ?_)
  · intro a' w' hw' hR
    have h1 := hR w' hw'
    unfold wpOp
    rw [show l.toArray[n]? = some o by simpa using ho]
    dsimp only
    split
    · rename_i hw; rw [if_pos hw] at h1; exact .inl h1
    · rename_i hw; rw [if_neg hw] at h1; exact h1
  · have := wpAnyM_lex (P := P) (C := fun w' => ∃ p : BW w, w' = p.u) hB.1 hs (l.take n) 0 (Array.replicate l.toArray.size false) a (by omega) (fun j hj => by rw [hlt] at hj; simp [hj]) (fun j i _ _ => by
      show (Array.replicate l.toArray.size false).getD j false = false
      rw [Array.getD_eq_getD_getElem?, Array.getElem?_replicate]
      split <;> rfl) (by rw [hlt, ← hl]; simpa using hB.2) h
    rw [hlt, ← hl] at this
    simpa using this
end Go.Proofs.Ytfkkhfiiokhnaai
