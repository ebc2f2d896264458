/-
  PROVED HERE: the words of a text, and what the program's own wordEnd and wordsOf answer; nothing that was in memory is turned.
-/
import Derived.Test.YtggmjiddadjilaiGreatC1
import Derived.Test.YtggmjiddadjilaiGreatC2
import Derived.RangeFuncNested
import Derived.RangeFuncBound
import Derived.Shelf.RegionOpen
import Derived.OwnWalkIn
import Derived.LoopNIn
import Derived.LoopIn
set_option maxRecDepth 1000000
set_option maxHeartbeats 40000000
namespace Go.Proofs.YtggmjiddadjilaiGreat
open Go.RowKit Go.Shelf
def z0C (s:ByteArray) (i:Nat):Nat:=if i < s.size∧ch s i ≠ 32 then z0C s (i+1) else i
termination_by s.size - i
theorem z7a {s:ByteArray} {i:Nat} (h1:i < s.size) (h2:ch s i ≠ 32):z0C s i=z0C s (i+1):=by rw [z0C,if_pos ⟨h1,h2⟩]
theorem zdd {s:ByteArray} {i:Nat} (h2:ch s i=32):z0C s i=i:=by rw [z0C,if_neg (fun h=>h.2 h2)]
theorem zfX {s:ByteArray} {i:Nat} (h1:¬ i < s.size):z0C s i=i:=by rw [z0C,if_neg (fun h=>h1 h.1)]
theorem z9R (s:ByteArray) (i:Nat) (hi:i≤s.size):i≤z0C s i∧z0C s i≤s.size∧(∀ j,i≤j→j < z0C s i→ch s j ≠ 32)∧(z0C s i < s.size→ch s (z0C s i)=32):=by
 by_cases h:i < s.size∧ch s i ≠ 32
 ·rw [z7a h.1 h.2];obtain ⟨h1,h2,h3,h4⟩:=z9R s (i+1) (by omega);refine ⟨by omega,h2,fun j hj1 hj2=>?_,h4⟩
  rcases Nat.lt_or_eq_of_le hj1 with hlt | rfl
  ·exact h3 j hlt hj2
  ·exact h.2
 ·rw [z0C,if_neg h];exact ⟨Nat.le_refl _,hi,fun j h1 h2=>absurd h2 (by omega),fun hlt=>Classical.byContradiction (fun hc=>h ⟨hlt,hc⟩)⟩
termination_by s.size - i
theorem z5U (s:ByteArray) (i:Nat):i≤z0C s i:=by
 by_cases h:i < s.size∧ch s i ≠ 32
 ·rw [z7a h.1 h.2];have:=z5U s (i+1);omega
 ·rw [z0C,if_neg h];exact Nat.le_refl _
termination_by s.size - i
def z0v (s:ByteArray) (i:Nat):List ByteArray:=if i < s.size then s.extract i (z0C s i) :: z0v s (z0C s i+1) else []
termination_by s.size - i
decreasing_by have:=z5U s i;omega
theorem z5h {s:ByteArray} {i:Nat} (h:i < s.size):z0v s i=s.extract i (z0C s i) :: z0v s (z0C s i+1):=by rw [z0v,if_pos h]
theorem z4A {s:ByteArray} {i:Nat} (h:¬ i < s.size):z0v s i=[]:=by rw [z0v,if_neg h]
abbrev W30:={ x:ByteArray // 0 < x.size∧x.size≤30 }
theorem zi9:0 < (ByteArray.mk #[97]).size∧(ByteArray.mk #[97]).size≤30:=by decide
def toW (x:ByteArray):W30:=if h:0 < x.size∧x.size≤30 then ⟨x,h⟩ else ⟨⟨#[97]⟩,zi9⟩
theorem zes {x:ByteArray} (h:0 < x.size∧x.size≤30):toW x=⟨x,h⟩:=by rw [toW,dif_pos h]
def z04 (s:ByteArray):List W30:=if z00 s=true then (z0v s 0).map toW else []
def z7b (s:ByteArray) (k:Nat):Prop:=(k < s.size→ch s k ≠ 32)∧k≤s.size+1
theorem z8t {s:ByteArray} (h:z00 s=true):z7b s 0:=by
 refine ⟨fun h0 hc=>?_,by omega⟩;have hg:=((z2A s).1 h).2 0 h0;simp [z0N] at hg;exact hg.1 hc
theorem z8u {s:ByteArray} (h:z00 s=true) {k:Nat} (hk:k < s.size) (hs:z7b s k) :
  k < z0C s k∧z0C s k≤s.size∧z7b s (z0C s k+1)∧(0 < (s.extract k (z0C s k)).size∧(s.extract k (z0C s k)).size≤30):=by
 obtain ⟨h30,hg⟩:=(z2A s).1 h;obtain ⟨_,h2,_,h4⟩:=z9R s k (by omega);have h1:k < z0C s k:=(by rw [z7a hk (hs.1 hk)];exact z5U s (k+1));refine ⟨h1,h2,⟨fun hlt hc=>?_,by omega⟩,?_⟩
 ·have hb:=h4 (by omega);have hn:=hg (z0C s k+1) hlt;simp [z0N] at hn
  rcases hn.1 with h5 | h5
  ·exact h5 hc
  ·exact h5.2 hb
 ·rw [ByteArray.size_extract];omega
theorem z6s (s:ByteArray) (k:Nat):(z0v s k).length≤s.size - k:=by
 by_cases h:k < s.size
 ·rw [z5h h];have h1:=z6s s (z0C s k+1);have h2:=z5U s k;simp;omega
 ·rw [z4A h];simp
termination_by s.size - k
decreasing_by have:=z5U s k;omega
theorem z5V {s:ByteArray} (hok:z00 s=true) (k:Nat) (hk:z7b s k):((z0v s k).map toW).map (fun x=>x.1)=z0v s k:=by
 by_cases h:k < s.size
 ·obtain ⟨h1,h2,h3,h4⟩:=z8u hok h hk;rw [z5h h,List.map_cons,List.map_cons,zes h4,z5V hok _ h3]
 ·rw [z4A h];rfl
termination_by s.size+1 - k
decreasing_by omega
theorem zet {s:ByteArray} (hok:z00 s=true):(z04 s).map (fun x=>x.1)=z0v s 0:=by
 rw [z04,if_pos hok];exact z5V hok 0 (z8t hok)
theorem zeu {s:ByteArray} (hok:z00 s=true):(z04 s).length=(z0v s 0).length:=by
 rw [← zet hok,List.length_map]
theorem z8v (s:ByteArray):(z04 s).length≤30:=by
 cases hok:z00 s with
 | false=>rw [z04,if_neg (by rw [hok];simp)];simp
 | true =>
  rw [zeu hok];have h1:=z6s s 0;have h2:=((z2A s).1 hok).1;omega
theorem zc0 (s:ByteArray) (k:Nat) (hk:k≤s.size) (hs:s.size≤30) (w:World) :
  Calls Tryz.prog 149 #[.string s,.int .i64 k] w fun e w'=>e=.returned (.int .i64 (z0C s k))∧w'=w:=by
 go_enter Tryz.func149,Tryz.ntmps149;go_wp2;go_loop [5] (fun i=>∃ m:Nat,m≤s.size∧i=.int .i64 m∧z0C s m=z0C s k) (fun i=>s.size - (intOf i).toNat)
 case atStart=>exact ⟨k,hk,rfl,rfl⟩
 case round =>
  obtain ⟨m,hm,rfl,HW0⟩:=hrel;have HW:=Hd HW0;clear HW0;by_cases hlt:m < s.size
  ·have HC:Hid (ch s m=(s[m].toNat:Int)):=zar hlt;by_cases hc:(s[m].toNat:Int)=32
   ·have hc':((s[m].toNat:Int) == 32)=true:=beq_iff_eq.2 hc;have HE:Hid (z0C s m=m):=zdd (HC.out.trans hc);clear hc HC;go_wp2;go_ret;exact ⟨congrArg (fun n:Nat=>Ending.returned (Value.int .i64 (n:Int))) (HE.out.symm.trans HW.out),rfl⟩
   ·have hc':((s[m].toNat:Int) == 32)=false:=beq_eq_false_iff_ne.2 hc;have HE:Hid (z0C s m=z0C s (m+1)):=z7a hlt (fun h=>hc (HC.out.symm.trans h));clear hc HC;go_wp2
    go_round
    case rel=>exact ⟨m+1,by omega,by go_num,by rw [← HE.out,HW.out]⟩
    case measure=>simp [intOf];omega
  ·have HE:Hid (z0C s m=m):=zfX hlt;obtain rfl:m=s.size:=by omega
   go_wp2;go_ret;exact ⟨congrArg (fun n:Nat=>Ending.returned (Value.int .i64 (n:Int))) (HE.out.symm.trans HW.out),rfl⟩
theorem z7w (s:ByteArray) (w:World) :
  Calls Tryz.prog 127 #[.string s] w fun e w'=>e=.returned (.func (.func 148) #[] #[.pointer (some ⟨w.heap.size,0,none⟩)])∧w'=w.alloc (.cells #[.string s] 9):=by
 go_enter Tryz.func127,Tryz.ntmps127;go_wp2;go_ret;exact ⟨rfl,rfl⟩
end Go.Proofs.YtggmjiddadjilaiGreat
