/-
  PROVED HERE: a region that draws its order, by a fact that each operation keeps, whatever was carried out ahead of it.
-/
import Derived.Test.YtggmjiddadjilaqDoorBkT
import Derived.WalkLawsBesides
import Derived.WalkSpells
import Derived.Deep.QuietTactic
import Derived.BigQuiet
import Derived.RegionTactic
import Derived.Lib.SmallJoins
import Derived.Orders
namespace Go.Proofs.YtggmjiddadjilaqDoor
open Go.RowKit

def upd (L : Nat → Bool) (i : Nat) : Nat → Bool := fun j => if j = i then true else L j
theorem upd_ne {L : Nat → Bool} {i j : Nat} (h : (j == i) = false) : upd L i j = L j := by
  unfold upd
  rw [if_neg (fun e => by rw [e] at h; simp at h)]
theorem un {L : Nat → Bool} {i j : Nat} {b : Bool} (h : upd L i j = b) (e : (j == i) = false := by rfl) : L j = b := by rwa [upd_ne e] at h
theorem upd_self {L : Nat → Bool} {i : Nat} : upd L i i = true := by simp [upd]
/-- each operation hangs on operations ahead of it alone -/
def aheadB (ops : Array Oper) : Bool := (List.range ops.size).all fun i => ((ops[i]?).map fun o => o.after.all fun e => !Region.binds .any e || decide (e.on < i)).getD true
theorem ahead_all {ops : Array Oper} (h : aheadB ops = true) {listed : Array Bool} (hs : listed.size = ops.size) (hr : Region.ready .any ops listed = []) : ∀ i, i < ops.size → listed.getD i false = true := by
  intro i
  induction i using Nat.strongRecOn with
  | ind i ih =>
    intro hi
    cases hl : listed.getD i false with
    | true => rfl
    | false =>
      exfalso
      have ho : ops[i]? = some ops[i] := Array.getElem?_eq_getElem hi
      have h1 := List.all_eq_true.1 h i (List.mem_range.2 hi)
      rw [ho] at h1
      simp only [Option.map_some, Option.getD_some] at h1
      have hm : i ∈ Region.ready .any ops listed := by
        unfold Region.ready
        rw [List.mem_filter]
        refine ⟨List.mem_range.2 hi, ?_⟩
        have h2 : listed.getD i true = false := by
          rw [Array.getD_eq_getD_getElem?, Array.getElem?_eq_getElem (by omega)] at hl ⊢
          exact hl
        rw [h2, ho]
        simp only [Bool.not_false, Bool.true_and, Option.map_some, Option.getD_some]
        rw [Array.all_eq_true_iff_forall_mem]
        intro e he
        have h3 := Array.all_eq_true_iff_forall_mem.1 h1 e he
        cases hbn : Region.binds .any e with
        | false => simp
        | true =>
          rw [hbn] at h3
          have h4 : e.on < i := by simpa using h3
          rw [ih e.on h4 (by omega)]
          simp
      rw [hr] at hm
      cases hm
theorem listed_set {listed : Array Bool} {i : Nat} (hi : i < listed.size) : (fun j => (listed.setIfInBounds i true).getD j false) = upd (fun j => listed.getD j false) i := by
  funext j
  unfold upd
  rw [Array.getD_eq_getD_getElem?]
  by_cases h : j = i
  · subst h; simp [hi]
  · rw [if_neg h, Array.getElem?_setIfInBounds_ne (Ne.symm h)]
    exact (Array.getD_eq_getD_getElem? ..).symm
theorem count_set {l : List Bool} {i : Nat} (h : l[i]? = some false) : (l.set i true).count false + 1 = l.count false := by
  induction l generalizing i with
  | nil => simp at h
  | cons a t ih =>
    cases i with
    | zero => simp at h; subst h; simp
    | succ i =>
      simp at h
      have := ih h
      rw [List.set_cons_succ, List.count_cons, List.count_cons]
      omega

section
variable {P : Program} {ops : Array Oper} {Q : Exit → Act → World → Prop} (J : (Nat → Bool) → Act → World → Prop)
theorem wpAny_inv (hord : aheadB ops = true)
    (hs : ∀ (L : Nat → Bool) (a : Act) (w : World) (i : Nat) (o : Oper), J L a w → ops[i]? = some o → L i = false → (∀ e ∈ o.after, Region.binds .any e = true → L e.on = true) →
      ∀ K : Act → World → Prop, (∀ a' w', J (upd L i) a' w' → K a' w') → if Region.wanted o (yielded ops a.tmps) = true then o.wp P a w K Q else K (a.put o.dst undef) w)
    (hd : ∀ (L : Nat → Bool) (a : Act) (w : World), J L a w → (∀ i, i < ops.size → L i = true) → Q .normal a w) :
    ∀ (fuel : Nat) (listed : Array Bool) (a : Act) (w : World), listed.size = ops.size → listed.toList.count false ≤ fuel → J (fun j => listed.getD j false) a w → wpAny P .any ops Q fuel listed a w := by
  intro fuel
  induction fuel with
  | zero =>
    intro listed a w hsz hc hJ
    have hall : ∀ i, i < ops.size → listed.getD i false = true := by
      intro i hi
      have h0 : listed.toList.count false = 0 := by omega
      have hi' : i < listed.size := by omega
      have := List.count_eq_zero.1 h0
      have hm : listed[i] ∈ listed.toList := by simp
      rw [Array.getD_eq_getD_getElem?, Array.getElem?_eq_getElem hi', Option.getD_some]
      cases hv : listed[i] with
      | true => rfl
      | false => rw [hv] at hm; exact absurd hm this
    refine ⟨?_, hd _ _ _ hJ hall⟩
    unfold Region.ready
    rw [List.filter_eq_nil_iff]
    intro i hi
    have hi2 := List.mem_range.1 hi
    have := hall i hi2
    have h3 : listed.getD i true = true := by
      rw [Array.getD_eq_getD_getElem?, Array.getElem?_eq_getElem (by omega)] at this ⊢
      exact this
    rw [h3]; simp
  | succ fuel ih =>
    intro listed a w hsz hc hJ
    refine ⟨fun hr => hd _ _ _ hJ (ahead_all hord hsz hr), fun i hi => ?_⟩
    unfold Region.ready at hi
    rw [List.mem_filter] at hi
    obtain ⟨h1, h2⟩ := hi
    have hlt := List.mem_range.1 h1
    have ho : ops[i]? = some ops[i] := Array.getElem?_eq_getElem hlt
    rw [ho] at h2
    simp only [Option.map_some, Option.getD_some, Bool.and_eq_true] at h2
    obtain ⟨h3, h4⟩ := h2
    have hil : i < listed.size := by omega
    have hv : listed[i] = false := by
      rw [Array.getD_eq_getD_getElem?, Array.getElem?_eq_getElem hil] at h3
      simpa using h3
    have hfi : listed.getD i false = false := by rw [Array.getD_eq_getD_getElem?, Array.getElem?_eq_getElem hil, hv]; rfl
    have hstep := hs _ a w i ops[i] hJ ho hfi (fun e he hb => by
      have := Array.all_eq_true_iff_forall_mem.1 h4 e he
      rw [hb] at this
      simpa using this) (wpAny P .any ops Q fuel (listed.setIfInBounds i true)) (fun a' w' hJ' => ih _ a' w' (by simpa using hsz) (by
        have := count_set (l := listed.toList) (i := i) (by rw [Array.getElem?_toList, Array.getElem?_eq_getElem hil, hv])
        rw [Array.toList_setIfInBounds]
        omega) (by rw [listed_set hil]; exact hJ'))
    unfold wpOp
    rw [ho]
    dsimp only
    split
    · rename_i hw; rw [if_pos hw] at hstep; exact .inl hstep
    · rename_i hw; rw [if_neg hw] at hstep; exact hstep
theorem wp_region_inv {id : Nat} {a : Act} {w : World} (hm : P.follows .mixedOrders = true) (hord : aheadB ops = true)
    (hs : ∀ (L : Nat → Bool) (a : Act) (w : World) (i : Nat) (o : Oper), J L a w → ops[i]? = some o → L i = false → (∀ e ∈ o.after, Region.binds .any e = true → L e.on = true) →
      ∀ K : Act → World → Prop, (∀ a' w', J (upd L i) a' w' → K a' w') → if Region.wanted o (yielded ops a.tmps) = true then o.wp P a w K Q else K (a.put o.dst undef) w)
    (hd : ∀ (L : Nat → Bool) (a : Act) (w : World), J L a w → (∀ i, i < ops.size → L i = true) → Q .normal a w)
    (h0 : J (fun _ => false) a w.drew) : (Code.region id ops true).wp P Q a w := by
  refine wp_region_any hm (wpAny_inv J hord hs hd _ _ _ _ (by simp) (by simp) ?_)
  have e : (fun j => (Array.replicate ops.size false).getD j false) = fun _ => false := by
    funext j
    rw [Array.getD_eq_getD_getElem?]
    by_cases h : j < ops.size <;> simp [h]
  rw [e]
  exact h0
end
end Go.Proofs.YtggmjiddadjilaqDoor
