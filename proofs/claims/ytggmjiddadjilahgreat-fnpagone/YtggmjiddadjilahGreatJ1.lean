/-
  PROVED HERE: small laws on what a call leaves as it was, for the other texts of this claim.
-/
import Derived.Test.YtggmjiddadjilahGreatRows
import Derived.WalkKit
import Derived.ProofKit
import Derived.Deep.Draws
set_option maxRecDepth 1000000
set_option maxHeartbeats 40000000
open Go.Proofs.Tryz
namespace Go.Proofs.YtggmjiddadjilahGreat
open Value (int)
open IntKind (i64)
open Go.RowKit
theorem own:ownKnob prog.godebug=none:=by kernel_rfl
theorem zj8:laidOutB prog=true:=by kernel_rfl
theorem Hid.intro {p:Prop} (h:p):Hid p:=h
theorem lR {n:Nat}:n<=n:=Nat.le_refl n
theorem nZ {n:Nat}:0<=n:=Nat.zero_le n
theorem bR {b:Nat} {w:World}:Below b w w:=Below.refl b w
theorem bS {w:World} {a:Addr} {u:Value} {k:Nat} (h:k ≠ a.block):(w.setCell a u).heap[k]?=w.heap[k]?:=Below.heap_setCell w a u k h
theorem bA {w:World} {o:Obj} {k:Nat} (h:k < w.heap.size):(w.alloc o).heap[k]?=w.heap[k]?:=Below.heap_alloc w o k h
theorem nL {a b c:Nat} (h:a < b) (k:b<=c):a < c:=Nat.lt_of_lt_of_le h k
theorem nT {a b c:Nat} (h:a<=b) (k:b<=c):a<=c:=Nat.le_trans h k
theorem O {p:Prop} (h:p):Hid p:=h
theorem bL {α:Type} {a:Array α} {i:Nat} {x:α} (h:a[i]?=some x):i < a.size:=(Array.getElem?_eq_some_iff.1 h).1
theorem ze {a w:World} (h:Below a.heap.size a w) (o:Obj):Below a.heap.size a (w.alloc o):=h.alloc h.size o
theorem z0X {a w:World} (h:Below a.heap.size a w):Below a.heap.size a w.drew:=h.drew
theorem z4a {a w:World} (h:Below a.heap.size a w) (n:Nat):Below a.heap.size a (w.drewN n):=⟨h.os,h.tape,h.output,h.size,h.block⟩
theorem z2s {a w:World} (h:Below a.heap.size a w) {p:Addr} (hp:a.heap.size<=p.block) (u:Value):Below a.heap.size a (w.setCell p u):=h.setCell hp u
theorem zi {a b c:World} (h:Below a.heap.size a b) (k:Below b.heap.size b c):Below a.heap.size a c:=h.trans (k.mono h.size)
end Go.Proofs.YtggmjiddadjilahGreat
