/-
  PROVED HERE: the words of a text, and what the program's own wordEnd and wordsOf answer; nothing that was in memory is turned.
-/
import Derived.Test.YtggmjiddadjilahGreatJ1
import Derived.Test.YtggmjiddadjilahGreatJ2
import Derived.RangeFuncNested
import Derived.RangeFuncBound
import Derived.Shelf.RegionOpen
import Derived.OwnWalkIn
import Derived.LoopNIn
import Derived.LoopIn
set_option maxRecDepth 1000000
set_option maxHeartbeats 40000000
open Go.Proofs.Tryz
namespace Go.Proofs.YtggmjiddadjilahGreat
open Value (int)
open IntKind (i64)
open Go.RowKit Go.Shelf
def z0Y (s:ByteArray) (i:Nat):Nat:=if i < s.size/\ch s i ≠ 32 then z0Y s (i+1) else i
termination_by s.size - i
theorem z75 {s:ByteArray} {i:Nat} (h1:i < s.size) (h2:ch s i ≠ 32):z0Y s i=z0Y s (i+1):=by rw [z0Y,if_pos ⟨h1,h2⟩]
theorem za8 {s:ByteArray} {i:Nat} (h2:ch s i=32):z0Y s i=i:=by rw [z0Y,if_neg (λh=>h.2 h2)]
theorem zd7 {s:ByteArray} {i:Nat} (h1:¬ i < s.size):z0Y s i=i:=by rw [z0Y,if_neg (λh=>h1 h.1)]
theorem zbJ (s:ByteArray) (i:Nat) (hi:i<=s.size):i<=z0Y s i/\z0Y s i<=s.size/\(∀ j,i<=j->j < z0Y s i->ch s j ≠ 32)/\(z0Y s i < s.size->ch s (z0Y s i)=32):=by
 by_cases h:i < s.size/\ch s i ≠ 32
 ·rw [z75 h.1 h.2];obtain ⟨h1,h2,h3,h4⟩:=zbJ s (i+1) (by omega);refine ⟨by omega,h2,λj hj1 hj2=>?_,h4⟩
  rcases Nat.lt_or_eq_of_le hj1 with hlt | rfl
  ·exact h3 j hlt hj2
  ·exact h.2
 ·rw [z0Y,if_neg h];exact ⟨lR,hi,λj h1 h2=>absurd h2 (by omega),λhlt=>Classical.byContradiction (λhc=>h ⟨hlt,hc⟩)⟩
termination_by s.size - i
theorem zaW {s:ByteArray} {i e:Nat} (h:∀ j,i<=j->j < e->ch s j ≠ 32) (hie:i<=e) (he:e<=s.size) (hb:e < s.size->ch s e=32):z0Y s i=e:=by
 rcases Nat.lt_or_eq_of_le hie with hlt | rfl
 ·rw [z75 (by omega) (h i lR hlt)];exact zaW (λj h1 h2=>h j (by omega) h2) hlt he hb
 ·by_cases hs:i < s.size
  ·exact za8 (hb hs)
  ·exact zd7 hs
termination_by e - i
theorem z76 (s:ByteArray) (i:Nat):i<=z0Y s i:=by
 by_cases h:i < s.size/\ch s i ≠ 32
 ·rw [z75 h.1 h.2];have:=z76 s (i+1);omega
 ·rw [z0Y,if_neg h];exact lR
termination_by s.size - i
def z0v (s:ByteArray) (i:Nat):List ByteArray:=if i < s.size then s.extract i (z0Y s i) :: z0v s (z0Y s i+1) else []
termination_by s.size - i
decreasing_by have:=z76 s i;omega
theorem z43 {s:ByteArray} {i:Nat} (h:i < s.size):z0v s i=s.extract i (z0Y s i) :: z0v s (z0Y s i+1):=by rw [z0v,if_pos h]
theorem z3B {s:ByteArray} {i:Nat} (h:¬ i < s.size):z0v s i=[]:=by rw [z0v,if_neg h]
abbrev W30:={ x:ByteArray // 0 < x.size/\x.size<=30 }
theorem zkM:0 < (ByteArray.mk #[97]).size/\(ByteArray.mk #[97]).size<=30:=by decide
def toW (x:ByteArray):W30:=if h:0 < x.size/\x.size<=30 then ⟨x,h⟩ else ⟨⟨#[97]⟩,zkM⟩
theorem zgU {x:ByteArray} (h:0 < x.size/\x.size<=30):toW x=⟨x,h⟩:=by rw [toW,dif_pos h]
def zZ (s:ByteArray):List W30:=if z0u s=true then (z0v s 0).map toW else []
def z6J (s:ByteArray) (k:Nat):Prop:=(k < s.size->ch s k ≠ 32)/\k<=s.size+1
theorem z7B {s:ByteArray} (h:z0u s=true):z6J s 0:=by
 refine ⟨λh0 hc=>?_,by omega⟩;have hg:=((z2B s).1 h).2 0 h0;simp [z1x] at hg;exact hg.1 hc
theorem z7C {s:ByteArray} (h:z0u s=true) {k:Nat} (hk:k < s.size) (hs:z6J s k) :
  k < z0Y s k/\z0Y s k<=s.size/\z6J s (z0Y s k+1)/\(0 < (s.extract k (z0Y s k)).size/\(s.extract k (z0Y s k)).size<=30):=by
 obtain ⟨h30,hg⟩:=(z2B s).1 h;obtain ⟨_,h2,_,h4⟩:=zbJ s k (by omega);have h1:k < z0Y s k:=(by rw [z75 hk (hs.1 hk)];exact z76 s (k+1));refine ⟨h1,h2,⟨λhlt hc=>?_,by omega⟩,?_⟩
 ·have hb:=h4 (by omega);have hn:=hg (z0Y s k+1) hlt;simp [z1x] at hn
  rcases hn.1 with h5 | h5
  ·exact h5 hc
  ·exact h5.2 hb
 ·rw [ByteArray.size_extract];omega
theorem z5Q (s:ByteArray) (k:Nat):(z0v s k).length<=s.size - k:=by
 by_cases h:k < s.size
 ·rw [z43 h];have h1:=z5Q s (z0Y s k+1);have h2:=z76 s k;simp;omega
 ·rw [z3B h];simp
termination_by s.size - k
decreasing_by have:=z76 s k;omega
theorem z77 {s:ByteArray} (hok:z0u s=true) (k:Nat) (hk:z6J s k):((z0v s k).map toW).map (λx=>x.1)=z0v s k:=by
 by_cases h:k < s.size
 ·obtain ⟨h1,h2,h3,h4⟩:=z7C hok h hk;rw [z43 h,List.map_cons,List.map_cons,zgU h4,z77 hok _ h3]
 ·rw [z3B h];rfl
termination_by s.size+1 - k
decreasing_by omega
theorem zbK {s:ByteArray} (hok:z0u s=true):(zZ s).map (λx=>x.1)=z0v s 0:=by
 rw [zZ,if_pos hok];exact z77 hok 0 (z7B hok)
theorem zgV {s:ByteArray} (hok:z0u s=true):(zZ s).map (λx=>Value.string x.1)=(z0v s 0).map Value.string:=by
 rw [<-zbK hok,List.map_map];rfl
theorem zbL {s:ByteArray} (hok:z0u s=true):(zZ s).length=(z0v s 0).length:=by
 rw [<-zbK hok,List.length_map]
theorem z60 (s:ByteArray):(zZ s).length<=30:=by
 cases hok:z0u s with
 | false=>rw [zZ,if_neg (by rw [hok];simp)];simp
 | true =>
  rw [zbL hok];have h1:=z5Q s 0;have h2:=((z2B s).1 hok).1;omega
theorem ze0 (s:ByteArray) (k:Nat) (hk:k<=s.size) (hs:s.size<=30) (w:World) :
  Calls prog 153 #[.string s,int i64 k] w λe w'=>e=.returned (int i64 (z0Y s k))/\w'=w:=by
 go_enter func153,ntmps153;go_wp2;go_loop [5] (λi=>∃ m:Nat,m<=s.size/\i=int i64 m/\z0Y s m=z0Y s k) (λi=>s.size - (intOf i).toNat)
 case atStart=>exact ⟨k,hk,rfl,rfl⟩
 case round =>
  obtain ⟨m,hm,rfl,HW0⟩:=hrel;have HW:=O HW0;clear HW0;by_cases hlt:m < s.size
  ·have HC:Hid (ch s m=(s[m].toNat:Int)):=z9I hlt;by_cases hc:(s[m].toNat:Int)=32
   ·have hc':((s[m].toNat:Int) == 32)=true:=beq_iff_eq.2 hc;have HE:Hid (z0Y s m=m):=za8 (HC.out.trans hc);clear hc HC;go_wp2;go_ret;exact ⟨congrArg (λn:Nat=>Ending.returned (Value.int .i64 (n:Int))) (HE.out.symm.trans HW.out),rfl⟩
   ·have hc':((s[m].toNat:Int) == 32)=false:=beq_eq_false_iff_ne.2 hc;have HE:Hid (z0Y s m=z0Y s (m+1)):=z75 hlt (λh=>hc (HC.out.symm.trans h));clear hc HC;go_wp2
    go_round
    case rel=>exact ⟨m+1,by omega,by go_num,by rw [<-HE.out,HW.out]⟩
    case measure=>simp [intOf];omega
  ·have HE:Hid (z0Y s m=m):=zd7 hlt;obtain rfl:m=s.size:=by omega
   go_wp2;go_ret;exact ⟨congrArg (λn:Nat=>Ending.returned (Value.int .i64 (n:Int))) (HE.out.symm.trans HW.out),rfl⟩
theorem z98 (s:ByteArray) (w:World) :
  Calls prog 127 #[.string s] w λe w'=>e=.returned (.func (.func 152) #[] #[.pointer (some ⟨w.heap.size,0,none⟩)])/\w'=w.alloc (.cells #[.string s] 9):=by
 go_enter func127,ntmps127;go_wp2;go_ret;exact ⟨rfl,rfl⟩
end Go.Proofs.YtggmjiddadjilahGreat
