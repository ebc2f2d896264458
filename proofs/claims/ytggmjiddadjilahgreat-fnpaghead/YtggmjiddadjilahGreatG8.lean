/-
  PROVED HERE: the words of a text, and what the program's own wordEnd and wordsOf answer; nothing that was in memory is turned.
-/
import Derived.Test.YtggmjiddadjilahGreatG1
import Derived.Test.YtggmjiddadjilahGreatG2
import Derived.RangeFuncNested
import Derived.RangeFuncBound
import Derived.Shelf.RegionOpen
import Derived.OwnWalkIn
import Derived.LoopNIn
import Derived.LoopIn
set_option maxRecDepth 1000000
set_option maxHeartbeats 40000000
namespace Go.Proofs.YtggmjiddadjilahGreat
open Value (int)
open IntKind (i64)
open Go.RowKit Go.Shelf
def z0Y (s:ByteArray) (i:Nat):Nat:=if i < s.size/\ch s i ≠ 32 then z0Y s (i+1) else i
termination_by s.size - i
theorem z71 {s:ByteArray} {i:Nat} (h1:i < s.size) (h2:ch s i ≠ 32):z0Y s i=z0Y s (i+1):=by rw [z0Y,if_pos ⟨h1,h2⟩]
theorem za6 {s:ByteArray} {i:Nat} (h2:ch s i=32):z0Y s i=i:=by rw [z0Y,if_neg (fun h=>h.2 h2)]
theorem zd5 {s:ByteArray} {i:Nat} (h1:¬ i < s.size):z0Y s i=i:=by rw [z0Y,if_neg (fun h=>h1 h.1)]
theorem zbI (s:ByteArray) (i:Nat) (hi:i<=s.size):i<=z0Y s i/\z0Y s i<=s.size/\(∀ j,i<=j->j < z0Y s i->ch s j ≠ 32)/\(z0Y s i < s.size->ch s (z0Y s i)=32):=by
 by_cases h:i < s.size/\ch s i ≠ 32
 ·rw [z71 h.1 h.2];obtain ⟨h1,h2,h3,h4⟩:=zbI s (i+1) (by omega);refine ⟨by omega,h2,fun j hj1 hj2=>?_,h4⟩
  rcases Nat.lt_or_eq_of_le hj1 with hlt | rfl
  ·exact h3 j hlt hj2
  ·exact h.2
 ·rw [z0Y,if_neg h];exact ⟨Nat.le_refl _,hi,fun j h1 h2=>absurd h2 (by omega),fun hlt=>Classical.byContradiction (fun hc=>h ⟨hlt,hc⟩)⟩
termination_by s.size - i
theorem zaV {s:ByteArray} {i e:Nat} (h:∀ j,i<=j->j < e->ch s j ≠ 32) (hie:i<=e) (he:e<=s.size) (hb:e < s.size->ch s e=32):z0Y s i=e:=by
 rcases Nat.lt_or_eq_of_le hie with hlt | rfl
 ·rw [z71 (by omega) (h i (Nat.le_refl _) hlt)];exact zaV (fun j h1 h2=>h j (by omega) h2) hlt he hb
 ·by_cases hs:i < s.size
  ·exact za6 (hb hs)
  ·exact zd5 hs
termination_by e - i
theorem z72 (s:ByteArray) (i:Nat):i<=z0Y s i:=by
 by_cases h:i < s.size/\ch s i ≠ 32
 ·rw [z71 h.1 h.2];have:=z72 s (i+1);omega
 ·rw [z0Y,if_neg h];exact Nat.le_refl _
termination_by s.size - i
def z0v (s:ByteArray) (i:Nat):List ByteArray:=if i < s.size then s.extract i (z0Y s i) :: z0v s (z0Y s i+1) else []
termination_by s.size - i
decreasing_by have:=z72 s i;omega
theorem z3Y {s:ByteArray} {i:Nat} (h:i < s.size):z0v s i=s.extract i (z0Y s i) :: z0v s (z0Y s i+1):=by rw [z0v,if_pos h]
theorem z3z {s:ByteArray} {i:Nat} (h:¬ i < s.size):z0v s i=[]:=by rw [z0v,if_neg h]
abbrev W30:={ x:ByteArray // 0 < x.size/\x.size<=30 }
theorem zkA:0 < (ByteArray.mk #[97]).size/\(ByteArray.mk #[97]).size<=30:=by decide
def toW (x:ByteArray):W30:=if h:0 < x.size/\x.size<=30 then ⟨x,h⟩ else ⟨⟨#[97]⟩,zkA⟩
theorem zgN {x:ByteArray} (h:0 < x.size/\x.size<=30):toW x=⟨x,h⟩:=by rw [toW,dif_pos h]
def zX (s:ByteArray):List W30:=if z0u s=true then (z0v s 0).map toW else []
def z6F (s:ByteArray) (k:Nat):Prop:=(k < s.size->ch s k ≠ 32)/\k<=s.size+1
theorem z7v {s:ByteArray} (h:z0u s=true):z6F s 0:=by
 refine ⟨fun h0 hc=>?_,by omega⟩;have hg:=((z2B s).1 h).2 0 h0;simp [z1u] at hg;exact hg.1 hc
theorem z7w {s:ByteArray} (h:z0u s=true) {k:Nat} (hk:k < s.size) (hs:z6F s k) :
  k < z0Y s k/\z0Y s k<=s.size/\z6F s (z0Y s k+1)/\(0 < (s.extract k (z0Y s k)).size/\(s.extract k (z0Y s k)).size<=30):=by
 obtain ⟨h30,hg⟩:=(z2B s).1 h;obtain ⟨_,h2,_,h4⟩:=zbI s k (by omega);have h1:k < z0Y s k:=(by rw [z71 hk (hs.1 hk)];exact z72 s (k+1));refine ⟨h1,h2,⟨fun hlt hc=>?_,by omega⟩,?_⟩
 ·have hb:=h4 (by omega);have hn:=hg (z0Y s k+1) hlt;simp [z1u] at hn
  rcases hn.1 with h5 | h5
  ·exact h5 hc
  ·exact h5.2 hb
 ·rw [ByteArray.size_extract];omega
theorem z5M (s:ByteArray) (k:Nat):(z0v s k).length<=s.size - k:=by
 by_cases h:k < s.size
 ·rw [z3Y h];have h1:=z5M s (z0Y s k+1);have h2:=z72 s k;simp;omega
 ·rw [z3z h];simp
termination_by s.size - k
decreasing_by have:=z72 s k;omega
theorem z73 {s:ByteArray} (hok:z0u s=true) (k:Nat) (hk:z6F s k):((z0v s k).map toW).map (fun x=>x.1)=z0v s k:=by
 by_cases h:k < s.size
 ·obtain ⟨h1,h2,h3,h4⟩:=z7w hok h hk;rw [z3Y h,List.map_cons,List.map_cons,zgN h4,z73 hok _ h3]
 ·rw [z3z h];rfl
termination_by s.size+1 - k
decreasing_by omega
theorem zbJ {s:ByteArray} (hok:z0u s=true):(zX s).map (fun x=>x.1)=z0v s 0:=by
 rw [zX,if_pos hok];exact z73 hok 0 (z7v hok)
theorem zgO {s:ByteArray} (hok:z0u s=true):(zX s).map (fun x=>Value.string x.1)=(z0v s 0).map Value.string:=by
 rw [<-zbJ hok,List.map_map];rfl
theorem zbK {s:ByteArray} (hok:z0u s=true):(zX s).length=(z0v s 0).length:=by
 rw [<-zbJ hok,List.length_map]
theorem z5X (s:ByteArray):(zX s).length<=30:=by
 cases hok:z0u s with
 | false=>rw [zX,if_neg (by rw [hok];simp)];simp
 | true =>
  rw [zbK hok];have h1:=z5M s 0;have h2:=((z2B s).1 hok).1;omega
theorem zdX (s:ByteArray) (k:Nat) (hk:k<=s.size) (hs:s.size<=30) (w:World) :
  Calls Tryz.prog 153 #[.string s,int i64 k] w fun e w'=>e=.returned (int i64 (z0Y s k))/\w'=w:=by
 go_enter Tryz.func153,Tryz.ntmps153;go_wp2;go_loop [5] (fun i=>∃ m:Nat,m<=s.size/\i=int i64 m/\z0Y s m=z0Y s k) (fun i=>s.size - (intOf i).toNat)
 case atStart=>exact ⟨k,hk,rfl,rfl⟩
 case round =>
  obtain ⟨m,hm,rfl,HW0⟩:=hrel;have HW:=Hd HW0;clear HW0;by_cases hlt:m < s.size
  ·have HC:Hid (ch s m=(s[m].toNat:Int)):=z9G hlt;by_cases hc:(s[m].toNat:Int)=32
   ·have hc':((s[m].toNat:Int) == 32)=true:=beq_iff_eq.2 hc;have HE:Hid (z0Y s m=m):=za6 (HC.out.trans hc);clear hc HC;go_wp2;go_ret;exact ⟨congrArg (fun n:Nat=>Ending.returned (Value.int .i64 (n:Int))) (HE.out.symm.trans HW.out),rfl⟩
   ·have hc':((s[m].toNat:Int) == 32)=false:=beq_eq_false_iff_ne.2 hc;have HE:Hid (z0Y s m=z0Y s (m+1)):=z71 hlt (fun h=>hc (HC.out.symm.trans h));clear hc HC;go_wp2
    go_round
    case rel=>exact ⟨m+1,by omega,by go_num,by rw [<-HE.out,HW.out]⟩
    case measure=>simp [intOf];omega
  ·have HE:Hid (z0Y s m=m):=zd5 hlt;obtain rfl:m=s.size:=by omega
   go_wp2;go_ret;exact ⟨congrArg (fun n:Nat=>Ending.returned (Value.int .i64 (n:Int))) (HE.out.symm.trans HW.out),rfl⟩
theorem z96 (s:ByteArray) (w:World) :
  Calls Tryz.prog 127 #[.string s] w fun e w'=>e=.returned (.func (.func 152) #[] #[.pointer (some ⟨w.heap.size,0,none⟩)])/\w'=w.alloc (.cells #[.string s] 9):=by
 go_enter Tryz.func127,Tryz.ntmps127;go_wp2;go_ret;exact ⟨rfl,rfl⟩
end Go.Proofs.YtggmjiddadjilahGreat
