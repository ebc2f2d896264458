/-
  PROVED HERE: small facts for regions that draw their order and append to a row of the call's own: what a slice or a pointer into a new block is; what stays of a row, a block, all else.
-/
import Derived.Test.YtfkfgmfahoeaoamAnyInv2
import Derived.Test.YtfkfgmfahoeaoamTblOwn
namespace Go.Proofs.Ytfkfgmfahoeaoam
open Go.RowKit

/-- a slice of m elements over a new block of such cells -/
def PB (n0 : Nat) (w : World) (t : TypeId) (m : Nat) (P : Array Value → Prop) (u : Value) : Prop := ∃ g arr, u = .slice (some ⟨g, 0, none⟩) m m ∧ Hp n0 w g (.cells arr t) ∧ P arr
/-- a pointer into a new block of such cells -/
def PP (n0 : Nat) (w : World) (t : TypeId) (P : Array Value → Nat → Prop) (u : Value) : Prop := ∃ g k arr, u = .pointer (some ⟨g, k, none⟩) ∧ Hp n0 w g (.cells arr t) ∧ P arr k
theorem PB.bk {n0 m r : Nat} {w w' : World} {t : TypeId} {P : Array Value → Prop} {u : Value} (h : PB n0 w t m P u) (hr : r < n0) (k : Bk r w w') : PB n0 w' t m P u := by
  obtain ⟨g, arr, e, hg, hp⟩ := h; exact ⟨g, arr, e, hg.bk hr k, hp⟩
theorem PP.bk {n0 r : Nat} {w w' : World} {t : TypeId} {P : Array Value → Nat → Prop} {u : Value} (h : PP n0 w t P u) (hr : r < n0) (k : Bk r w w') : PP n0 w' t P u := by
  obtain ⟨g, i, arr, e, hg, hp⟩ := h; exact ⟨g, i, arr, e, hg.bk hr k, hp⟩
theorem row_bk {w w' : World} {base r : Nat} {e : TypeId} {sz : Nat} {v : Value} {m : Nat} {xs : List Value} (h : w.ownsRow base e sz v m xs) (k : Bk r w w') (hr : r < base) : w'.ownsRow base e sz v m xs :=
  ⟨h.1, h.2.elim Or.inl (fun ⟨g, cap, cur, hv, hg, hc, q⟩ => Or.inr ⟨g, cap, cur, hv, hg, (k.block g (Array.getElem?_eq_some_iff.1 hc).1 (by omega)).trans hc, q⟩)⟩
theorem Bk.grown {r : Nat} {a b c : World} {u : Option Nat} (h : Bk r a b) (k : b.grownBy c u) (hu : ∀ i, u = some i → a.heap.size ≤ i) : Bk r a c :=
  ⟨k.os.trans h.os, k.tape.trans h.tape, k.output.trans h.output, Nat.le_trans h.size k.size, fun i hi hr => (k.block i (Nat.lt_of_lt_of_le hi h.size) (fun e => by have := hu i e.symm; omega)).trans (h.block i hi hr)⟩
theorem Rd.grown {r B : Nat} {b c : World} {u : Option Nat} (h : Rd b r B) (k : b.grownBy c u) (hu : ∀ i, u = some i → r < i) : Rd c r B :=
  h.keep (fun i hi => k.block i (Nat.lt_of_le_of_lt hi h.lt) (fun e => by have := hu i e.symm; omega))
theorem blk_grown {b c : World} {u : Option Nat} {g : Nat} {o : Obj} (h : b.heap[g]? = some o) (k : b.grownBy c u) (hu : some g ≠ u) : c.heap[g]? = some o :=
  (k.block g (Array.getElem?_eq_some_iff.1 h).1 hu).trans h
theorem ne_of_own {v : Value} {g : Nat} (h : v.ownBlock = none ∨ v.ownBlock ≠ some g) : some g ≠ v.ownBlock := fun e => by
  rcases h with h | h
  · rw [h] at e; cases e
  · exact h e.symm
/-- a store beside a row -/
theorem row_set {w : World} {base : Nat} {e e' : TypeId} {sz : Nat} {v : Value} {m : Nat} {xs : List Value} {g p : Nat} {cur : Array Value} (h : w.ownsRow base e sz v m xs) (h' : w.heap[g]? = some (.cells cur e')) (he : e ≠ e') (u : Value) : (w.setCell ⟨g, p, none⟩ u).ownsRow base e sz v m xs :=
  row_off (n := base) (b1 := some g) (b2 := none) h (Off.set w ⟨g, p, none⟩ rfl u) (Nat.le_refl _) (row_ne_block h h' he) (by cases v.ownBlock <;> simp)
theorem news_at {w : World} {g : Nat} {arr : Array Value} {t : TypeId} (h : w.heap[g]? = some (.cells arr t)) : ∀ j u, arr.toList[j]? = some u → w.cell? ((⟨g, 0, none⟩ : Addr).add j) = some u := fun j u hu => by
  have e : (⟨g, 0, none⟩ : Addr).add j = ⟨g, j, none⟩ := by simp [Addr.add]; intro h; exact h.symm
  rw [e, cellB h, ← Array.getElem?_toList]
  exact hu
/-- what else is to stay while a row is appended to, and a block is written -/
def Stays (n0 tb : Nat) (u : Value) (F : World → Prop) : Prop := ∀ w w', F w → Off n0 (some tb) u.ownBlock w w' → F w'
end Go.Proofs.Ytfkfgmfahoeaoam
