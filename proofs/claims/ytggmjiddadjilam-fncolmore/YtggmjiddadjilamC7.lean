/-
  PROVED HERE: the words of a text, and what the program's own wordEnd and wordsOf answer; nothing that was in memory is turned.
-/
import Derived.Test.YtggmjiddadjilamC1
import Derived.Test.YtggmjiddadjilamC2
import Derived.RangeFuncNested
import Derived.RangeFuncBound
import Derived.Shelf.RegionOpen
import Derived.OwnWalkIn
import Derived.LoopNIn
import Derived.LoopIn
set_option maxRecDepth 1000000
set_option maxHeartbeats 40000000
namespace Go.Proofs.Ytggmjiddadjilam
open Go.RowKit Go.Shelf
def z09 (s:ByteArray) (i:Nat):Nat:=if i < s.size∧ch s i ≠ 32 then z09 s (i+1) else i
termination_by s.size - i
theorem z3U {s:ByteArray} {i:Nat} (h1:i < s.size) (h2:ch s i ≠ 32):z09 s i=z09 s (i+1):=by rw [z09,if_pos ⟨h1,h2⟩]
theorem z7D {s:ByteArray} {i:Nat} (h2:ch s i=32):z09 s i=i:=by rw [z09,if_neg (fun h=>h.2 h2)]
theorem z9f {s:ByteArray} {i:Nat} (h1:¬ i < s.size):z09 s i=i:=by rw [z09,if_neg (fun h=>h1 h.1)]
theorem z5w (s:ByteArray) (i:Nat) (hi:i≤s.size):i≤z09 s i∧z09 s i≤s.size∧(∀ j,i≤j→j < z09 s i→ch s j ≠ 32)∧(z09 s i < s.size→ch s (z09 s i)=32):=by
 by_cases h:i < s.size∧ch s i ≠ 32
 ·rw [z3U h.1 h.2];obtain ⟨h1,h2,h3,h4⟩:=z5w s (i+1) (by omega);refine ⟨by omega,h2,fun j hj1 hj2=>?_,h4⟩
  rcases Nat.lt_or_eq_of_le hj1 with hlt | rfl
  ·exact h3 j hlt hj2
  ·exact h.2
 ·rw [z09,if_neg h];exact ⟨Nat.le_refl _,hi,fun j h1 h2=>absurd h2 (by omega),fun hlt=>Classical.byContradiction (fun hc=>h ⟨hlt,hc⟩)⟩
termination_by s.size - i
theorem z57 (s:ByteArray) (i:Nat):i≤z09 s i:=by
 by_cases h:i < s.size∧ch s i ≠ 32
 ·rw [z3U h.1 h.2];have:=z57 s (i+1);omega
 ·rw [z09,if_neg h];exact Nat.le_refl _
termination_by s.size - i
def z0B (s:ByteArray) (i:Nat):List ByteArray:=if i < s.size then s.extract i (z09 s i) :: z0B s (z09 s i+1) else []
termination_by s.size - i
decreasing_by have:=z57 s i;omega
theorem z6m {s:ByteArray} {i:Nat} (h:i < s.size):z0B s i=s.extract i (z09 s i) :: z0B s (z09 s i+1):=by rw [z0B,if_pos h]
theorem z5M {s:ByteArray} {i:Nat} (h:¬ i < s.size):z0B s i=[]:=by rw [z0B,if_neg h]
abbrev W30:={ x:ByteArray // 0 < x.size∧x.size≤30 }
theorem zaD:0 < (ByteArray.mk #[97]).size∧(ByteArray.mk #[97]).size≤30:=by decide
def toW (x:ByteArray):W30:=if h:0 < x.size∧x.size≤30 then ⟨x,h⟩ else ⟨⟨#[97]⟩,zaD⟩
theorem zal {x:ByteArray} (h:0 < x.size∧x.size≤30):toW x=⟨x,h⟩:=by rw [toW,dif_pos h]
def z0j (s:ByteArray):List W30:=if zD s=true then (z0B s 0).map toW else []
def z4J (s:ByteArray) (k:Nat):Prop:=(k < s.size→ch s k ≠ 32)∧k≤s.size+1
theorem z7E {s:ByteArray} (h:zD s=true):z4J s 0:=by
 refine ⟨fun h0 hc=>?_,by omega⟩;have hg:=((z22 s).1 h).2 0 h0;simp [z0n] at hg;exact hg.1 hc
theorem z7F {s:ByteArray} (h:zD s=true) {k:Nat} (hk:k < s.size) (hs:z4J s k) :
  k < z09 s k∧z09 s k≤s.size∧z4J s (z09 s k+1)∧(0 < (s.extract k (z09 s k)).size∧(s.extract k (z09 s k)).size≤30):=by
 obtain ⟨h30,hg⟩:=(z22 s).1 h;obtain ⟨_,h2,_,h4⟩:=z5w s k (by omega);have h1:k < z09 s k:=(by rw [z3U hk (hs.1 hk)];exact z57 s (k+1));refine ⟨h1,h2,⟨fun hlt hc=>?_,by omega⟩,?_⟩
 ·have hb:=h4 (by omega);have hn:=hg (z09 s k+1) hlt;simp [z0n] at hn
  rcases hn.1 with h5 | h5
  ·exact h5 hc
  ·exact h5.2 hb
 ·rw [ByteArray.size_extract];omega
theorem z6O (s:ByteArray) (k:Nat) (hk:k≤s.size) (hs:s.size≤30) (w:World) :
  Calls Try.prog 68 #[.string s,.int .i64 k] w fun e w'=>e=.returned (.int .i64 (z09 s k))∧w'=w:=by
 go_enter Try.func68,Try.ntmps68;go_wp2;go_loop [5] (fun i=>∃ m:Nat,m≤s.size∧i=.int .i64 m∧z09 s m=z09 s k) (fun i=>s.size - (intOf i).toNat)
 case atStart=>exact ⟨k,hk,rfl,rfl⟩
 case round =>
  obtain ⟨m,hm,rfl,HW0⟩:=hrel;have HW:=Hd HW0;clear HW0;by_cases hlt:m < s.size
  ·have HC:Hid (ch s m=(s[m].toNat:Int)):=z5T hlt;by_cases hc:(s[m].toNat:Int)=32
   ·have hc':((s[m].toNat:Int) == 32)=true:=beq_iff_eq.2 hc;have HE:Hid (z09 s m=m):=z7D (HC.out.trans hc);clear hc HC;go_wp2;go_ret;exact ⟨congrArg (fun n:Nat=>Ending.returned (Value.int .i64 (n:Int))) (HE.out.symm.trans HW.out),rfl⟩
   ·have hc':((s[m].toNat:Int) == 32)=false:=beq_eq_false_iff_ne.2 hc;have HE:Hid (z09 s m=z09 s (m+1)):=z3U hlt (fun h=>hc (HC.out.symm.trans h));clear hc HC;go_wp2
    go_round
    case rel=>exact ⟨m+1,by omega,by go_num,by rw [← HE.out,HW.out]⟩
    case measure=>simp [intOf];omega
  ·have HE:Hid (z09 s m=m):=z9f hlt;obtain rfl:m=s.size:=by omega
   go_wp2;go_ret;exact ⟨congrArg (fun n:Nat=>Ending.returned (Value.int .i64 (n:Int))) (HE.out.symm.trans HW.out),rfl⟩
theorem z6P (s:ByteArray) (w:World) :
  Calls Try.prog 33 #[.string s] w fun e w'=>e=.returned (.func (.func 67) #[] #[.pointer (some ⟨w.heap.size,0,none⟩)])∧w'=w.alloc (.cells #[.string s] 9):=by
 go_enter Try.func33,Try.ntmps33;go_wp2;go_ret;exact ⟨rfl,rfl⟩
end Go.Proofs.Ytggmjiddadjilam
