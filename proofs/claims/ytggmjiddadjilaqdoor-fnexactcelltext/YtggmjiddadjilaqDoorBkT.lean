/-
  PROVED HERE: what is as it was but one block, for the other texts of this claim.
-/
import Derived.Test.YtggmjiddadjilaqDoorKit
import Derived.Lib.SmallJoins
namespace Go.Proofs.YtggmjiddadjilaqDoor
open Go.RowKit

/-- All that was in memory is as it was, but for block r. -/
structure Bk (r : Nat) (w w' : World) : Prop where
  os : w'.os = w.os
  tape : w'.tape = w.tape
  output : w'.output = w.output
  size : w.heap.size ≤ w'.heap.size
  block : ∀ k, k < w.heap.size → k ≠ r → w'.heap[k]? = w.heap[k]?
theorem Bk.refl (r : Nat) (w : World) : Bk r w w := ⟨rfl, rfl, rfl, Nat.le_refl _, fun _ _ _ => rfl⟩
theorem Bk.trans {r : Nat} {a b c : World} (h : Bk r a b) (k : Bk r b c) : Bk r a c :=
  ⟨k.os.trans h.os, k.tape.trans h.tape, k.output.trans h.output, Nat.le_trans h.size k.size, fun i hi hr => (k.block i (Nat.lt_of_lt_of_le hi h.size) hr).trans (h.block i hi hr)⟩
theorem Bk.alloc {r : Nat} {a w : World} (h : Bk r a w) (o : Obj) : Bk r a (w.alloc o) :=
  h.trans ⟨rfl, rfl, rfl, by simp, fun k hk _ => Below.heap_alloc _ _ _ hk⟩
theorem Bk.drewN {r : Nat} {a w : World} (h : Bk r a w) (n : Nat) : Bk r a (w.drewN n) := ⟨h.os, h.tape, h.output, h.size, h.block⟩
theorem Bk.drew {r : Nat} {a w : World} (h : Bk r a w) : Bk r a w.drew := ⟨h.os, h.tape, h.output, h.size, h.block⟩
theorem Bk.set {r : Nat} {a w : World} (h : Bk r a w) {p : Addr} (hp : p.block = r ∨ a.heap.size ≤ p.block) (u : Value) : Bk r a (w.setCell p u) :=
  ⟨h.os, h.tape, h.output, by simpa [World.setCell] using h.size, fun k hk hr => (Below.heap_setCell _ _ _ _ (by omega)).trans (h.block k hk hr)⟩
theorem Bk.below {r : Nat} {w w' : World} (h : Bk r w w') {n : Nat} (hn : n ≤ w.heap.size) (hr : n ≤ r) : Below n w w' := ⟨h.os, h.tape, h.output, h.size, fun k hk => h.block k (by omega) (by omega)⟩
theorem Bk.of_below {r : Nat} {w w' : World} (h : Below w.heap.size w w') : Bk r w w' := ⟨h.os, h.tape, h.output, h.size, fun k hk _ => h.block k hk⟩
theorem Bk.cell {r : Nat} {w w' : World} (h : Bk r w w') {p : Addr} (hp : p.block < w.heap.size) (hr : p.block ≠ r) : w'.cell? p = w.cell? p := World.cell?_of_block (w := w) (h.block p.block hp hr)
theorem Bk.frozen {r : Nat} {w w' : World} (h : Bk r w w') {p : Addr} (hp : p.block < w.heap.size) (hr : p.block ≠ r) : w'.frozen? p = w.frozen? p := World.frozen?_of_block (w := w) (h.block p.block hp hr)
theorem Bk.cells {r : Nat} {w w' : World} (h : Bk r w w') : (∀ b o, b < w.heap.size → b ≠ r → w'.cell? ⟨b, o, none⟩ = w.cell? ⟨b, o, none⟩) ∧ (∀ b o, b < w.heap.size → b ≠ r → w'.frozen? ⟨b, o, none⟩ = w.frozen? ⟨b, o, none⟩) :=
  ⟨fun b o h1 h2 => h.cell (p := ⟨b, o, none⟩) h1 h2, fun b o h1 h2 => h.frozen (p := ⟨b, o, none⟩) h1 h2⟩
end Go.Proofs.YtggmjiddadjilaqDoor
