/-
  PROVED HERE: the words of a text, and what the program's own wordEnd and wordsOf answer; nothing that was in memory is turned.
-/
import Derived.Test.YtggmjiddadjilamGreatC1
import Derived.Test.YtggmjiddadjilamGreatC2
import Derived.RangeFuncNested
import Derived.RangeFuncBound
import Derived.Shelf.RegionOpen
import Derived.OwnWalkIn
import Derived.LoopNIn
import Derived.LoopIn
set_option maxRecDepth 1000000
set_option maxHeartbeats 40000000
namespace Go.Proofs.YtggmjiddadjilamGreat
open Go.RowKit Go.Shelf
def z0L (s:ByteArray) (i:Nat):Nat:=if i < s.size∧ch s i ≠ 32 then z0L s (i+1) else i
termination_by s.size - i
theorem z6P {s:ByteArray} {i:Nat} (h1:i < s.size) (h2:ch s i ≠ 32):z0L s i=z0L s (i+1):=by rw [z0L,if_pos ⟨h1,h2⟩]
theorem z9Q {s:ByteArray} {i:Nat} (h2:ch s i=32):z0L s i=i:=by rw [z0L,if_neg (fun h=>h.2 h2)]
theorem zcN {s:ByteArray} {i:Nat} (h1:¬ i < s.size):z0L s i=i:=by rw [z0L,if_neg (fun h=>h1 h.1)]
theorem zbm (s:ByteArray) (i:Nat) (hi:i≤s.size):i≤z0L s i∧z0L s i≤s.size∧(∀ j,i≤j→j < z0L s i→ch s j ≠ 32)∧(z0L s i < s.size→ch s (z0L s i)=32):=by
 by_cases h:i < s.size∧ch s i ≠ 32
 ·rw [z6P h.1 h.2];obtain ⟨h1,h2,h3,h4⟩:=zbm s (i+1) (by omega);refine ⟨by omega,h2,fun j hj1 hj2=>?_,h4⟩
  rcases Nat.lt_or_eq_of_le hj1 with hlt | rfl
  ·exact h3 j hlt hj2
  ·exact h.2
 ·rw [z0L,if_neg h];exact ⟨Nat.le_refl _,hi,fun j h1 h2=>absurd h2 (by omega),fun hlt=>Classical.byContradiction (fun hc=>h ⟨hlt,hc⟩)⟩
termination_by s.size - i
theorem zaB {s:ByteArray} {i e:Nat} (h:∀ j,i≤j→j < e→ch s j ≠ 32) (hie:i≤e) (he:e≤s.size) (hb:e < s.size→ch s e=32):z0L s i=e:=by
 rcases Nat.lt_or_eq_of_le hie with hlt | rfl
 ·rw [z6P (by omega) (h i (Nat.le_refl _) hlt)];exact zaB (fun j h1 h2=>h j (by omega) h2) hlt he hb
 ·by_cases hs:i < s.size
  ·exact z9Q (hb hs)
  ·exact zcN hs
termination_by e - i
theorem z6Q (s:ByteArray) (i:Nat):i≤z0L s i:=by
 by_cases h:i < s.size∧ch s i ≠ 32
 ·rw [z6P h.1 h.2];have:=z6Q s (i+1);omega
 ·rw [z0L,if_neg h];exact Nat.le_refl _
termination_by s.size - i
def z0m (s:ByteArray) (i:Nat):List ByteArray:=if i < s.size then s.extract i (z0L s i) :: z0m s (z0L s i+1) else []
termination_by s.size - i
decreasing_by have:=z6Q s i;omega
theorem z3P {s:ByteArray} {i:Nat} (h:i < s.size):z0m s i=s.extract i (z0L s i) :: z0m s (z0L s i+1):=by rw [z0m,if_pos h]
theorem z3u {s:ByteArray} {i:Nat} (h:¬ i < s.size):z0m s i=[]:=by rw [z0m,if_neg h]
abbrev W30:={ x:ByteArray // 0 < x.size∧x.size≤30 }
theorem zk5:0 < (ByteArray.mk #[97]).size∧(ByteArray.mk #[97]).size≤30:=by decide
def toW (x:ByteArray):W30:=if h:0 < x.size∧x.size≤30 then ⟨x,h⟩ else ⟨⟨#[97]⟩,zk5⟩
theorem zgn {x:ByteArray} (h:0 < x.size∧x.size≤30):toW x=⟨x,h⟩:=by rw [toW,dif_pos h]
def zP (s:ByteArray):List W30:=if z0k s=true then (z0m s 0).map toW else []
def z6t (s:ByteArray) (k:Nat):Prop:=(k < s.size→ch s k ≠ 32)∧k≤s.size+1
theorem z7i {s:ByteArray} (h:z0k s=true):z6t s 0:=by
 refine ⟨fun h0 hc=>?_,by omega⟩;have hg:=((z2t s).1 h).2 0 h0;simp [z1m] at hg;exact hg.1 hc
theorem z7j {s:ByteArray} (h:z0k s=true) {k:Nat} (hk:k < s.size) (hs:z6t s k) :
  k < z0L s k∧z0L s k≤s.size∧z6t s (z0L s k+1)∧(0 < (s.extract k (z0L s k)).size∧(s.extract k (z0L s k)).size≤30):=by
 obtain ⟨h30,hg⟩:=(z2t s).1 h;obtain ⟨_,h2,_,h4⟩:=zbm s k (by omega);have h1:k < z0L s k:=(by rw [z6P hk (hs.1 hk)];exact z6Q s (k+1));refine ⟨h1,h2,⟨fun hlt hc=>?_,by omega⟩,?_⟩
 ·have hb:=h4 (by omega);have hn:=hg (z0L s k+1) hlt;simp [z1m] at hn
  rcases hn.1 with h5 | h5
  ·exact h5 hc
  ·exact h5.2 hb
 ·rw [ByteArray.size_extract];omega
theorem z5C (s:ByteArray) (k:Nat):(z0m s k).length≤s.size - k:=by
 by_cases h:k < s.size
 ·rw [z3P h];have h1:=z5C s (z0L s k+1);have h2:=z6Q s k;simp;omega
 ·rw [z3u h];simp
termination_by s.size - k
decreasing_by have:=z6Q s k;omega
theorem z6R {s:ByteArray} (hok:z0k s=true) (k:Nat) (hk:z6t s k):((z0m s k).map toW).map (fun x=>x.1)=z0m s k:=by
 by_cases h:k < s.size
 ·obtain ⟨h1,h2,h3,h4⟩:=z7j hok h hk;rw [z3P h,List.map_cons,List.map_cons,zgn h4,z6R hok _ h3]
 ·rw [z3u h];rfl
termination_by s.size+1 - k
decreasing_by omega
theorem zbn {s:ByteArray} (hok:z0k s=true):(zP s).map (fun x=>x.1)=z0m s 0:=by
 rw [zP,if_pos hok];exact z6R hok 0 (z7i hok)
theorem zgo {s:ByteArray} (hok:z0k s=true):(zP s).map (fun x=>Value.string x.1)=(z0m s 0).map Value.string:=by
 rw [← zbn hok,List.map_map];rfl
theorem zbo {s:ByteArray} (hok:z0k s=true):(zP s).length=(z0m s 0).length:=by
 rw [← zbn hok,List.length_map]
theorem z5P (s:ByteArray):(zP s).length≤30:=by
 cases hok:z0k s with
 | false=>rw [zP,if_neg (by rw [hok];simp)];simp
 | true =>
  rw [zbo hok];have h1:=z5C s 0;have h2:=((z2t s).1 hok).1;omega
theorem zdB (s:ByteArray) (k:Nat) (hk:k≤s.size) (hs:s.size≤30) (w:World) :
  Calls Tryz.prog 130 #[.string s,.int .i64 k] w fun e w'=>e=.returned (.int .i64 (z0L s k))∧w'=w:=by
 go_enter Tryz.func130,Tryz.ntmps130;go_wp2;go_loop [5] (fun i=>∃ m:Nat,m≤s.size∧i=.int .i64 m∧z0L s m=z0L s k) (fun i=>s.size - (intOf i).toNat)
 case atStart=>exact ⟨k,hk,rfl,rfl⟩
 case round =>
  obtain ⟨m,hm,rfl,HW0⟩:=hrel;have HW:=Hd HW0;clear HW0;by_cases hlt:m < s.size
  ·have HC:Hid (ch s m=(s[m].toNat:Int)):=z9o hlt;by_cases hc:(s[m].toNat:Int)=32
   ·have hc':((s[m].toNat:Int) == 32)=true:=beq_iff_eq.2 hc;have HE:Hid (z0L s m=m):=z9Q (HC.out.trans hc);clear hc HC;go_wp2;go_ret;exact ⟨congrArg (fun n:Nat=>Ending.returned (Value.int .i64 (n:Int))) (HE.out.symm.trans HW.out),rfl⟩
   ·have hc':((s[m].toNat:Int) == 32)=false:=beq_eq_false_iff_ne.2 hc;have HE:Hid (z0L s m=z0L s (m+1)):=z6P hlt (fun h=>hc (HC.out.symm.trans h));clear hc HC;go_wp2
    go_round
    case rel=>exact ⟨m+1,by omega,by go_num,by rw [← HE.out,HW.out]⟩
    case measure=>simp [intOf];omega
  ·have HE:Hid (z0L s m=m):=zcN hlt;obtain rfl:m=s.size:=by omega
   go_wp2;go_ret;exact ⟨congrArg (fun n:Nat=>Ending.returned (Value.int .i64 (n:Int))) (HE.out.symm.trans HW.out),rfl⟩
theorem z8Q (s:ByteArray) (w:World) :
  Calls Tryz.prog 103 #[.string s] w fun e w'=>e=.returned (.func (.func 129) #[] #[.pointer (some ⟨w.heap.size,0,none⟩)])∧w'=w.alloc (.cells #[.string s] 9):=by
 go_enter Tryz.func103,Tryz.ntmps103;go_wp2;go_ret;exact ⟨rfl,rfl⟩
end Go.Proofs.YtggmjiddadjilamGreat
