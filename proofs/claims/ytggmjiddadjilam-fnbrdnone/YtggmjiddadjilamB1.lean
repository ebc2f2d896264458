/-
  PROVED HERE: small laws on what a call leaves as it was, for the other texts of this claim.
-/
import Derived.Test.YtggmjiddadjilamRows
import Derived.WalkKit
import Derived.ProofKit
import Derived.Deep.Draws
set_option maxRecDepth 1000000
set_option maxHeartbeats 40000000
namespace Go.Proofs.Ytggmjiddadjilam
open Go.RowKit
theorem own:ownKnob Try.prog.godebug=none:=by kernel_rfl
theorem z6B:laidOutB Try.prog=true:=by kernel_rfl
theorem Hid.intro {p:Prop} (h:p):Hid p:=h
theorem Hd {p:Prop} (h:p):Hid p:=h
theorem bL {α:Type} {a:Array α} {i:Nat} {x:α} (h:a[i]?=some x):i < a.size:=(Array.getElem?_eq_some_iff.1 h).1
theorem zb {a w:World} (h:Below a.heap.size a w) (o:Obj):Below a.heap.size a (w.alloc o):=h.alloc h.size o
theorem z1O {a w:World} (h:Below a.heap.size a w):Below a.heap.size a w.drew:=h.drew
theorem z6C {a w:World} (h:Below a.heap.size a w) (n:Nat):Below a.heap.size a (w.drewN n):=⟨h.os,h.tape,h.output,h.size,h.block⟩
theorem z4Z {a w:World} (h:Below a.heap.size a w) {p:Addr} (hp:a.heap.size≤p.block) (u:Value):Below a.heap.size a (w.setCell p u):=h.setCell hp u
theorem ze {a b c:World} (h:Below a.heap.size a b) (k:Below b.heap.size b c):Below a.heap.size a c:=h.trans (k.mono h.size)
end Go.Proofs.Ytggmjiddadjilam
