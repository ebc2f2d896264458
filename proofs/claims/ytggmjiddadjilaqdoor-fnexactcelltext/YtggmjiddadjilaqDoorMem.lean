/-
  PROVED HERE: small laws on blocks of cells in memory, for the other texts of this claim.
-/
import Derived.Test.YtggmjiddadjilaqDoorKit
import Derived.Laws.MakeOwn
import Derived.OwnWalk
import Derived.Lib.SmallJoins
namespace Go.Proofs.YtggmjiddadjilaqDoor
open Go.RowKit

theorem sizeSet (w : World) (p : Addr) (v : Value) : (w.setCell p v).heap.size = w.heap.size := by simp [World.setCell]
theorem newestB (w : World) (q : Obj) : (w.alloc q).heap[w.heap.size]? = some q := by show (w.heap.push q)[w.heap.size]? = _; simp
theorem cellB {w : World} {g p : Nat} {arr : Array Value} {t : TypeId} (h : w.heap[g]? = some (.cells arr t)) : w.cell? ⟨g, p, none⟩ = arr[p]? := Joins.cell_of_block h p
theorem someB {w : World} {g p : Nat} {arr : Array Value} {t : TypeId} (h : w.heap[g]? = some (.cells arr t)) (hp : p < arr.size) : ∃ v, w.cell? ⟨g, p, none⟩ = some v := ⟨_, (cellB h).trans (Array.getElem?_eq_getElem hp)⟩
theorem freeB {w : World} {g p : Nat} {arr : Array Value} {t : TypeId} (h : w.heap[g]? = some (.cells arr t)) : w.frozen? ⟨g, p, none⟩ = false := Joins.unfrozen_of_block h p
theorem setB {w : World} {g p : Nat} {arr : Array Value} {t : TypeId} (h : w.heap[g]? = some (.cells arr t)) (v : Value) : (w.setCell ⟨g, p, none⟩ v).heap[g]? = some (.cells (arr.setIfInBounds p v) t) := Joins.block_setCell h v
theorem two_next {arr : Array Value} {n k : Nat} (hs : arr.size = n * 2) (hk : k < n) (x y : Value) :
    (∀ p, p < k * 2 → ((arr.setIfInBounds (k * 2) x).setIfInBounds (k * 2 + 1) y)[p]? = arr[p]?) ∧ ((arr.setIfInBounds (k * 2) x).setIfInBounds (k * 2 + 1) y)[k * 2]? = some x ∧ ((arr.setIfInBounds (k * 2) x).setIfInBounds (k * 2 + 1) y)[k * 2 + 1]? = some y := by
  have eq : ∀ (A : Array Value) (i : Nat) (v : Value), i < A.size → (A.setIfInBounds i v)[i]? = some v := fun A i v hi => by simp [hi]
  refine ⟨fun p hp => ?_, ?_, ?_⟩
  · rw [Array.getElem?_setIfInBounds_ne (by omega), Array.getElem?_setIfInBounds_ne (by omega)]
  · rw [Array.getElem?_setIfInBounds_ne (by omega)]
    exact eq _ _ _ (by omega)
  · exact eq _ _ _ (by rw [Array.size_setIfInBounds]; omega)
/-- what is left of n behind m: -1, if that is less than nothing -/
def leftOf (n : Int) (m : Nat) : Int := if (m : Int) ≤ n then n - m else -1
theorem leftOf_pos {n : Int} {m : Nat} (h : (m : Int) ≤ n) : leftOf n m = n - m := by rw [leftOf, if_pos h]
theorem leftOf_neg {n : Int} {m : Nat} (h : ¬ (m : Int) ≤ n) : leftOf n m = -1 := by rw [leftOf, if_neg h]
theorem retI64 {a b : Int} (h : a = b) : Ending.returned (.int .i64 a) = .returned (.int .i64 b) := by rw [h]
end Go.Proofs.YtggmjiddadjilaqDoor
