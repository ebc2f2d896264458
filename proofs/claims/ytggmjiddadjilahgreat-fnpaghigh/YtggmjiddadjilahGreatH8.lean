/-
  PROVED HERE: the words of a text, and what the program's own wordEnd and wordsOf answer; nothing that was in memory is turned.
-/
import Derived.Test.YtggmjiddadjilahGreatH1
import Derived.Test.YtggmjiddadjilahGreatH2
import Derived.RangeFuncNested
import Derived.RangeFuncBound
import Derived.Shelf.RegionOpen
import Derived.OwnWalkIn
import Derived.LoopNIn
import Derived.LoopIn
set_option maxRecDepth 1000000
set_option maxHeartbeats 40000000
open Go.Proofs.Tryz
namespace Go.Proofs.YtggmjiddadjilahGreat
open Value (int)
open IntKind (i64)
open Go.RowKit Go.Shelf
def z12 (s:ByteArray) (i:Nat):Nat:=if i < s.size/\ch s i ≠ 32 then z12 s (i+1) else i
termination_by s.size - i
theorem z79 {s:ByteArray} {i:Nat} (h1:i < s.size) (h2:ch s i ≠ 32):z12 s i=z12 s (i+1):=by rw [z12,if_pos ⟨h1,h2⟩]
theorem zaf {s:ByteArray} {i:Nat} (h2:ch s i=32):z12 s i=i:=by rw [z12,if_neg (λh=>h.2 h2)]
theorem zdj {s:ByteArray} {i:Nat} (h1:¬ i < s.size):z12 s i=i:=by rw [z12,if_neg (λh=>h1 h.1)]
theorem zbS (s:ByteArray) (i:Nat) (hi:i<=s.size):i<=z12 s i/\z12 s i<=s.size/\(∀ j,i<=j->j < z12 s i->ch s j ≠ 32)/\(z12 s i < s.size->ch s (z12 s i)=32):=by
 by_cases h:i < s.size/\ch s i ≠ 32
 ·rw [z79 h.1 h.2];obtain ⟨h1,h2,h3,h4⟩:=zbS s (i+1) (by omega);refine ⟨by omega,h2,λj hj1 hj2=>?_,h4⟩
  rcases Nat.lt_or_eq_of_le hj1 with hlt | rfl
  ·exact h3 j hlt hj2
  ·exact h.2
 ·rw [z12,if_neg h];exact ⟨lR,hi,λj h1 h2=>absurd h2 (by omega),λhlt=>Classical.byContradiction (λhc=>h ⟨hlt,hc⟩)⟩
termination_by s.size - i
theorem zb4 {s:ByteArray} {i e:Nat} (h:∀ j,i<=j->j < e->ch s j ≠ 32) (hie:i<=e) (he:e<=s.size) (hb:e < s.size->ch s e=32):z12 s i=e:=by
 rcases Nat.lt_or_eq_of_le hie with hlt | rfl
 ·rw [z79 (by omega) (h i lR hlt)];exact zb4 (λj h1 h2=>h j (by omega) h2) hlt he hb
 ·by_cases hs:i < s.size
  ·exact zaf (hb hs)
  ·exact zdj hs
termination_by e - i
theorem z7a (s:ByteArray) (i:Nat):i<=z12 s i:=by
 by_cases h:i < s.size/\ch s i ≠ 32
 ·rw [z79 h.1 h.2];have:=z7a s (i+1);omega
 ·rw [z12,if_neg h];exact lR
termination_by s.size - i
def z0z (s:ByteArray) (i:Nat):List ByteArray:=if i < s.size then s.extract i (z12 s i) :: z0z s (z12 s i+1) else []
termination_by s.size - i
decreasing_by have:=z7a s i;omega
theorem z43 {s:ByteArray} {i:Nat} (h:i < s.size):z0z s i=s.extract i (z12 s i) :: z0z s (z12 s i+1):=by rw [z0z,if_pos h]
theorem z3F {s:ByteArray} {i:Nat} (h:¬ i < s.size):z0z s i=[]:=by rw [z0z,if_neg h]
abbrev W30:={ x:ByteArray // 0 < x.size/\x.size<=30 }
theorem zkR:0 < (ByteArray.mk #[97]).size/\(ByteArray.mk #[97]).size<=30:=by decide
def toW (x:ByteArray):W30:=if h:0 < x.size/\x.size<=30 then ⟨x,h⟩ else ⟨⟨#[97]⟩,zkR⟩
theorem zh2 {x:ByteArray} (h:0 < x.size/\x.size<=30):toW x=⟨x,h⟩:=by rw [toW,dif_pos h]
def zX (s:ByteArray):List W30:=if z0y s=true then (z0z s 0).map toW else []
def z6P (s:ByteArray) (k:Nat):Prop:=(k < s.size->ch s k ≠ 32)/\k<=s.size+1
theorem z7D {s:ByteArray} (h:z0y s=true):z6P s 0:=by
 refine ⟨λh0 hc=>?_,by omega⟩;have hg:=((z2D s).1 h).2 0 h0;simp [z1x] at hg;exact hg.1 hc
theorem z7E {s:ByteArray} (h:z0y s=true) {k:Nat} (hk:k < s.size) (hs:z6P s k) :
  k < z12 s k/\z12 s k<=s.size/\z6P s (z12 s k+1)/\(0 < (s.extract k (z12 s k)).size/\(s.extract k (z12 s k)).size<=30):=by
 obtain ⟨h30,hg⟩:=(z2D s).1 h;obtain ⟨_,h2,_,h4⟩:=zbS s k (by omega);have h1:k < z12 s k:=(by rw [z79 hk (hs.1 hk)];exact z7a s (k+1));refine ⟨h1,h2,⟨λhlt hc=>?_,by omega⟩,?_⟩
 ·have hb:=h4 (by omega);have hn:=hg (z12 s k+1) hlt;simp [z1x] at hn
  rcases hn.1 with h5 | h5
  ·exact h5 hc
  ·exact h5.2 hb
 ·rw [ByteArray.size_extract];omega
theorem z5U (s:ByteArray) (k:Nat):(z0z s k).length<=s.size - k:=by
 by_cases h:k < s.size
 ·rw [z43 h];have h1:=z5U s (z12 s k+1);have h2:=z7a s k;simp;omega
 ·rw [z3F h];simp
termination_by s.size - k
decreasing_by have:=z7a s k;omega
theorem z7b {s:ByteArray} (hok:z0y s=true) (k:Nat) (hk:z6P s k):((z0z s k).map toW).map (λx=>x.1)=z0z s k:=by
 by_cases h:k < s.size
 ·obtain ⟨h1,h2,h3,h4⟩:=z7E hok h hk;rw [z43 h,List.map_cons,List.map_cons,zh2 h4,z7b hok _ h3]
 ·rw [z3F h];rfl
termination_by s.size+1 - k
decreasing_by omega
theorem zbT {s:ByteArray} (hok:z0y s=true):(zX s).map (λx=>x.1)=z0z s 0:=by
 rw [zX,if_pos hok];exact z7b hok 0 (z7D hok)
theorem zh3 {s:ByteArray} (hok:z0y s=true):(zX s).map (λx=>Value.string x.1)=(z0z s 0).map Value.string:=by
 rw [<-zbT hok,List.map_map];rfl
theorem zbU {s:ByteArray} (hok:z0y s=true):(zX s).length=(z0z s 0).length:=by
 rw [<-zbT hok,List.length_map]
theorem z68 (s:ByteArray):(zX s).length<=30:=by
 cases hok:z0y s with
 | false=>rw [zX,if_neg (by rw [hok];simp)];simp
 | true =>
  rw [zbU hok];have h1:=z5U s 0;have h2:=((z2D s).1 hok).1;omega
theorem zeh (s:ByteArray) (k:Nat) (hk:k<=s.size) (hs:s.size<=30) (w:World) :
  Calls prog 153 #[.string s,int i64 k] w λe w'=>e=.returned (int i64 (z12 s k))/\w'=w:=by
 go_enter func153,ntmps153;go_wp2;go_loop [5] (λi=>∃ m:Nat,m<=s.size/\i=int i64 m/\z12 s m=z12 s k) (λi=>s.size - (intOf i).toNat)
 case atStart=>exact ⟨k,hk,rfl,rfl⟩
 case round =>
  obtain ⟨m,hm,rfl,HW0⟩:=hrel;have HW:=O HW0;clear HW0;by_cases hlt:m < s.size
  ·have HC:Hid (ch s m=(s[m].toNat:Int)):=z9N hlt;by_cases hc:(s[m].toNat:Int)=32
   ·have hc':((s[m].toNat:Int) == 32)=true:=beq_iff_eq.2 hc;have HE:Hid (z12 s m=m):=zaf (HC.out.trans hc);clear hc HC;go_wp2;go_ret;exact ⟨congrArg (λn:Nat=>Ending.returned (Value.int .i64 (n:Int))) (HE.out.symm.trans HW.out),rfl⟩
   ·have hc':((s[m].toNat:Int) == 32)=false:=beq_eq_false_iff_ne.2 hc;have HE:Hid (z12 s m=z12 s (m+1)):=z79 hlt (λh=>hc (HC.out.symm.trans h));clear hc HC;go_wp2
    go_round
    case rel=>exact ⟨m+1,by omega,by go_num,by rw [<-HE.out,HW.out]⟩
    case measure=>simp [intOf];omega
  ·have HE:Hid (z12 s m=m):=zdj hlt;obtain rfl:m=s.size:=by omega
   go_wp2;go_ret;exact ⟨congrArg (λn:Nat=>Ending.returned (Value.int .i64 (n:Int))) (HE.out.symm.trans HW.out),rfl⟩
theorem z9b (s:ByteArray) (w:World) :
  Calls prog 127 #[.string s] w λe w'=>e=.returned (.func (.func 152) #[] #[.pointer (some ⟨w.heap.size,0,none⟩)])/\w'=w.alloc (.cells #[.string s] 9):=by
 go_enter func127,ntmps127;go_wp2;go_ret;exact ⟨rfl,rfl⟩
end Go.Proofs.YtggmjiddadjilahGreat
