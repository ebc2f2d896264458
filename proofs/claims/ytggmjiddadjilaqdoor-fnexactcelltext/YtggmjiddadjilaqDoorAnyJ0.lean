/-
  PROVED HERE: as AnyInv's law, and besides: what an operation hangs on has been carried out ahead of it.
-/
import Derived.Test.YtggmjiddadjilaqDoorAnyI0
namespace Go.Proofs.YtggmjiddadjilaqDoor
open Go.RowKit

/-- whether operation j hangs on operation i -/
def edgeB (ops : Array Oper) (j i : Nat) : Bool := ((ops[j]?).map fun o => o.after.toList.any fun e => Region.binds .any e && e.on == i).getD false
def Closed (ops : Array Oper) (L : Nat → Bool) : Prop := ∀ j i, edgeB ops j i = true → L i = false → L j = false
theorem Closed.next {ops : Array Oper} {L : Nat → Bool} (h : Closed ops L) {k : Nat} {o : Oper} (ho : ops[k]? = some o) (ha : ∀ e ∈ o.after, Region.binds .any e = true → L e.on = true) : Closed ops (upd L k) := by
  intro j i he hi
  have hik : i ≠ k := fun e => by subst e; rw [upd_self] at hi; cases hi
  have hi' : L i = false := by simpa [upd, hik] using hi
  have hj := h j i he hi'
  have hjk : j ≠ k := by
    intro e
    subst e
    unfold edgeB at he
    rw [ho] at he
    simp only [Option.map_some, Option.getD_some, List.any_eq_true, Bool.and_eq_true, beq_iff_eq] at he
    obtain ⟨e, he1, he2, he3⟩ := he
    have := ha e (by simpa using he1) he2
    rw [he3, hi'] at this
    cases this
  simpa [upd, hjk] using hj
theorem wp_region_inv2 {P : Program} {ops : Array Oper} {Q : Exit → Act → World → Prop} (J : (Nat → Bool) → Act → World → Prop) {id : Nat} {a : Act} {w : World} (hm : P.follows .mixedOrders = true) (hord : aheadB ops = true)
    (hs : ∀ (L : Nat → Bool) (a : Act) (w : World) (i : Nat) (o : Oper), J L a w → Closed ops L → ops[i]? = some o → L i = false → (∀ e ∈ o.after, Region.binds .any e = true → L e.on = true) →
      ∀ K : Act → World → Prop, (∀ a' w', J (upd L i) a' w' → K a' w') → if Region.wanted o (yielded ops a.tmps) = true then o.wp P a w K Q else K (a.put o.dst undef) w)
    (hd : ∀ (L : Nat → Bool) (a : Act) (w : World), J L a w → (∀ i, i < ops.size → L i = true) → Q .normal a w)
    (h0 : J (fun _ => false) a w.drew) : (Code.region id ops true).wp P Q a w :=
  wp_region_inv (fun L a w => J L a w ∧ Closed ops L) hm hord
    (fun L a w i o hJ ho hi ha K hK => hs L a w i o hJ.1 hJ.2 ho hi ha K (fun a' w' hJ' => hK a' w' ⟨hJ', hJ.2.next ho ha⟩))
    (fun L a w hJ hall => hd L a w hJ.1 hall) ⟨h0, fun _ _ _ _ => rfl⟩
end Go.Proofs.YtggmjiddadjilaqDoor
