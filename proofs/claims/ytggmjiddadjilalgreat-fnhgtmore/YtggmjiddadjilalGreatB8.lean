/-
  PROVED HERE: the words of a text, and what the program's own wordEnd and wordsOf answer; nothing that was in memory is turned.
-/
import Derived.Test.YtggmjiddadjilalGreatB1
import Derived.Test.YtggmjiddadjilalGreatB2
import Derived.RangeFuncNested
import Derived.RangeFuncBound
import Derived.Shelf.RegionOpen
import Derived.OwnWalkIn
import Derived.LoopNIn
import Derived.LoopIn
set_option maxRecDepth 1000000
set_option maxHeartbeats 40000000
namespace Go.Proofs.YtggmjiddadjilalGreat
open Value (int)
open IntKind (i64)
open Go.RowKit Go.Shelf
def z0i (s:ByteArray) (i:Nat):Nat:=if i < s.size/\ch s i ≠ 32 then z0i s (i+1) else i
termination_by s.size - i
theorem z5g {s:ByteArray} {i:Nat} (h1:i < s.size) (h2:ch s i ≠ 32):z0i s i=z0i s (i+1):=by rw [z0i,if_pos ⟨h1,h2⟩]
theorem z7u {s:ByteArray} {i:Nat} (h2:ch s i=32):z0i s i=i:=by rw [z0i,if_neg (fun h=>h.2 h2)]
theorem z9J {s:ByteArray} {i:Nat} (h1:¬ i < s.size):z0i s i=i:=by rw [z0i,if_neg (fun h=>h1 h.1)]
theorem z4W (s:ByteArray) (i:Nat) (hi:i<=s.size):i<=z0i s i/\z0i s i<=s.size/\(∀ j,i<=j->j < z0i s i->ch s j ≠ 32)/\(z0i s i < s.size->ch s (z0i s i)=32):=by
 by_cases h:i < s.size/\ch s i ≠ 32
 ·rw [z5g h.1 h.2];obtain ⟨h1,h2,h3,h4⟩:=z4W s (i+1) (by omega);refine ⟨by omega,h2,fun j hj1 hj2=>?_,h4⟩
  rcases Nat.lt_or_eq_of_le hj1 with hlt | rfl
  ·exact h3 j hlt hj2
  ·exact h.2
 ·rw [z0i,if_neg h];exact ⟨Nat.le_refl _,hi,fun j h1 h2=>absurd h2 (by omega),fun hlt=>Classical.byContradiction (fun hc=>h ⟨hlt,hc⟩)⟩
termination_by s.size - i
theorem z84 {s:ByteArray} {i e:Nat} (h:∀ j,i<=j->j < e->ch s j ≠ 32) (hie:i<=e) (he:e<=s.size) (hb:e < s.size->ch s e=32):z0i s i=e:=by
 rcases Nat.lt_or_eq_of_le hie with hlt | rfl
 ·rw [z5g (by omega) (h i (Nat.le_refl _) hlt)];exact z84 (fun j h1 h2=>h j (by omega) h2) hlt he hb
 ·by_cases hs:i < s.size
  ·exact z7u (hb hs)
  ·exact z9J hs
termination_by e - i
theorem z5h (s:ByteArray) (i:Nat):i<=z0i s i:=by
 by_cases h:i < s.size/\ch s i ≠ 32
 ·rw [z5g h.1 h.2];have:=z5h s (i+1);omega
 ·rw [z0i,if_neg h];exact Nat.le_refl _
termination_by s.size - i
def z0n (s:ByteArray) (i:Nat):List ByteArray:=if i < s.size then s.extract i (z0i s i) :: z0n s (z0i s i+1) else []
termination_by s.size - i
decreasing_by have:=z5h s i;omega
theorem z1W {s:ByteArray} {i:Nat} (h:i < s.size):z0n s i=s.extract i (z0i s i) :: z0n s (z0i s i+1):=by rw [z0n,if_pos h]
theorem z2r {s:ByteArray} {i:Nat} (h:¬ i < s.size):z0n s i=[]:=by rw [z0n,if_neg h]
abbrev W30:={ x:ByteArray // 0 < x.size/\x.size<=30 }
theorem zfT:0 < (ByteArray.mk #[97]).size/\(ByteArray.mk #[97]).size<=30:=by decide
def toW (x:ByteArray):W30:=if h:0 < x.size/\x.size<=30 then ⟨x,h⟩ else ⟨⟨#[97]⟩,zfT⟩
theorem zcF {x:ByteArray} (h:0 < x.size/\x.size<=30):toW x=⟨x,h⟩:=by rw [toW,dif_pos h]
def zV (s:ByteArray):List W30:=if zC s=true then (z0n s 0).map toW else []
def z5y (s:ByteArray) (k:Nat):Prop:=(k < s.size->ch s k ≠ 32)/\k<=s.size+1
theorem z4j {s:ByteArray} (h:zC s=true):z5y s 0:=by
 refine ⟨fun h0 hc=>?_,by omega⟩;have hg:=((z1u s).1 h).2 0 h0;simp [z0B] at hg;exact hg.1 hc
theorem z4k {s:ByteArray} (h:zC s=true) {k:Nat} (hk:k < s.size) (hs:z5y s k) :
  k < z0i s k/\z0i s k<=s.size/\z5y s (z0i s k+1)/\(0 < (s.extract k (z0i s k)).size/\(s.extract k (z0i s k)).size<=30):=by
 obtain ⟨h30,hg⟩:=(z1u s).1 h;obtain ⟨_,h2,_,h4⟩:=z4W s k (by omega);have h1:k < z0i s k:=(by rw [z5g hk (hs.1 hk)];exact z5h s (k+1));refine ⟨h1,h2,⟨fun hlt hc=>?_,by omega⟩,?_⟩
 ·have hb:=h4 (by omega);have hn:=hg (z0i s k+1) hlt;simp [z0B] at hn
  rcases hn.1 with h5 | h5
  ·exact h5 hc
  ·exact h5.2 hb
 ·rw [ByteArray.size_extract];omega
theorem z5P (s:ByteArray) (k:Nat):(z0n s k).length<=s.size - k:=by
 by_cases h:k < s.size
 ·rw [z1W h];have h1:=z5P s (z0i s k+1);have h2:=z5h s k;simp;omega
 ·rw [z2r h];simp
termination_by s.size - k
decreasing_by have:=z5h s k;omega
theorem z5i {s:ByteArray} (hok:zC s=true) (k:Nat) (hk:z5y s k):((z0n s k).map toW).map (fun x=>x.1)=z0n s k:=by
 by_cases h:k < s.size
 ·obtain ⟨h1,h2,h3,h4⟩:=z4k hok h hk;rw [z1W h,List.map_cons,List.map_cons,zcF h4,z5i hok _ h3]
 ·rw [z2r h];rfl
termination_by s.size+1 - k
decreasing_by omega
theorem z8B {s:ByteArray} (hok:zC s=true):(zV s).map (fun x=>x.1)=z0n s 0:=by
 rw [zV,if_pos hok];exact z5i hok 0 (z4j hok)
theorem zcG {s:ByteArray} (hok:zC s=true):(zV s).length=(z0n s 0).length:=by
 rw [<-z8B hok,List.length_map]
theorem z7v (s:ByteArray):(zV s).length<=30:=by
 cases hok:zC s with
 | false=>rw [zV,if_neg (by rw [hok];simp)];simp
 | true =>
  rw [zcG hok];have h1:=z5P s 0;have h2:=((z1u s).1 hok).1;omega
theorem zaA (s:ByteArray) (k:Nat) (hk:k<=s.size) (hs:s.size<=30) (w:World) :
  Calls Tryz.prog 80 #[.string s,int i64 k] w fun e w'=>e=.returned (int i64 (z0i s k))/\w'=w:=by
 go_enter Tryz.func80,Tryz.ntmps80;go_wp2;go_loop [5] (fun i=>∃ m:Nat,m<=s.size/\i=int i64 m/\z0i s m=z0i s k) (fun i=>s.size - (intOf i).toNat)
 case atStart=>exact ⟨k,hk,rfl,rfl⟩
 case round =>
  obtain ⟨m,hm,rfl,HW0⟩:=hrel;have HW:=Hd HW0;clear HW0;by_cases hlt:m < s.size
  ·have HC:Hid (ch s m=(s[m].toNat:Int)):=z4V hlt;by_cases hc:(s[m].toNat:Int)=32
   ·have hc':((s[m].toNat:Int) == 32)=true:=beq_iff_eq.2 hc;have HE:Hid (z0i s m=m):=z7u (HC.out.trans hc);clear hc HC;go_wp2;go_ret;exact ⟨congrArg (fun n:Nat=>Ending.returned (Value.int .i64 (n:Int))) (HE.out.symm.trans HW.out),rfl⟩
   ·have hc':((s[m].toNat:Int) == 32)=false:=beq_eq_false_iff_ne.2 hc;have HE:Hid (z0i s m=z0i s (m+1)):=z5g hlt (fun h=>hc (HC.out.symm.trans h));clear hc HC;go_wp2
    go_round
    case rel=>exact ⟨m+1,by omega,by go_num,by rw [<-HE.out,HW.out]⟩
    case measure=>simp [intOf];omega
  ·have HE:Hid (z0i s m=m):=z9J hlt;obtain rfl:m=s.size:=by omega
   go_wp2;go_ret;exact ⟨congrArg (fun n:Nat=>Ending.returned (Value.int .i64 (n:Int))) (HE.out.symm.trans HW.out),rfl⟩
theorem z6G (s:ByteArray) (w:World) :
  Calls Tryz.prog 60 #[.string s] w fun e w'=>e=.returned (.func (.func 79) #[] #[.pointer (some ⟨w.heap.size,0,none⟩)])/\w'=w.alloc (.cells #[.string s] 9):=by
 go_enter Tryz.func60,Tryz.ntmps60;go_wp2;go_ret;exact ⟨rfl,rfl⟩
end Go.Proofs.YtggmjiddadjilalGreat
