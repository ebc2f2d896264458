/-
  PROVED HERE: the words of a text, and what the program's own wordEnd and wordsOf answer; nothing that was in memory is turned.
-/
import Derived.Test.YtggmjiddadjilaeGreatC1
import Derived.Test.YtggmjiddadjilaeGreatC2
import Derived.RangeFuncNested
import Derived.RangeFuncBound
import Derived.RangeFuncCalls
import Derived.RangeFuncLeaves
import Derived.Shelf.Abstract
import Derived.Shelf.RegionOpen
import Derived.WalkKit
import Derived.OwnWalkIn
import Derived.TacticsInMore
import Derived.LoopNIn
import Derived.LoopIn
namespace Go.Proofs.YtggmjiddadjilaeGreat
open Go.RowKit Go.Shelf
def wend (s:ByteArray) (i:Nat):Nat:=if i < s.size∧ch s i ≠ 32 then wend s (i+1) else i
termination_by s.size - i
theorem wend_go {s:ByteArray} {i:Nat} (h1:i < s.size) (h2:ch s i ≠ 32):wend s i=wend s (i+1):=by rw [wend,if_pos ⟨h1,h2⟩]
theorem wend_blank {s:ByteArray} {i:Nat} (h2:ch s i=32):wend s i=i:=by rw [wend,if_neg (fun h=>h.2 h2)]
theorem wend_end {s:ByteArray} {i:Nat} (h1:¬ i < s.size):wend s i=i:=by rw [wend,if_neg (fun h=>h1 h.1)]
theorem wend_spec (s:ByteArray) (i:Nat) (hi:i≤s.size):i≤wend s i∧wend s i≤s.size∧(∀ j,i≤j→j < wend s i→ch s j ≠ 32)∧(wend s i < s.size→ch s (wend s i)=32):=by
 by_cases h:i < s.size∧ch s i ≠ 32
 ·rw [wend_go h.1 h.2]
  obtain ⟨h1,h2,h3,h4⟩:=wend_spec s (i+1) (by omega)
  refine ⟨by omega,h2,fun j hj1 hj2=>?_,h4⟩
  rcases Nat.lt_or_eq_of_le hj1 with hlt | rfl
  ·exact h3 j hlt hj2
  ·exact h.2
 ·rw [wend,if_neg h]
  exact ⟨Nat.le_refl _,hi,fun j h1 h2=>absurd h2 (by omega),fun hlt=>Classical.byContradiction (fun hc=>h ⟨hlt,hc⟩)⟩
termination_by s.size - i
theorem wend_of {s:ByteArray} {i e:Nat} (h:∀ j,i≤j→j < e→ch s j ≠ 32) (hie:i≤e) (he:e≤s.size) (hb:e < s.size→ch s e=32):wend s i=e:=by
 rcases Nat.lt_or_eq_of_le hie with hlt | rfl
 ·rw [wend_go (by omega) (h i (Nat.le_refl _) hlt)]
  exact wend_of (fun j h1 h2=>h j (by omega) h2) hlt he hb
 ·by_cases hs:i < s.size
  ·exact wend_blank (hb hs)
  ·exact wend_end hs
termination_by e - i
theorem wend_ge (s:ByteArray) (i:Nat):i≤wend s i:=by
 by_cases h:i < s.size∧ch s i ≠ 32
 ·rw [wend_go h.1 h.2]
  have:=wend_ge s (i+1)
  omega
 ·rw [wend,if_neg h]
  exact Nat.le_refl _
termination_by s.size - i
def wordsFrom (s:ByteArray) (i:Nat):List ByteArray:=if i < s.size then s.extract i (wend s i) :: wordsFrom s (wend s i+1) else []
termination_by s.size - i
decreasing_by have:=wend_ge s i;omega
theorem wordsFrom_go {s:ByteArray} {i:Nat} (h:i < s.size):wordsFrom s i=s.extract i (wend s i) :: wordsFrom s (wend s i+1):=by rw [wordsFrom,if_pos h]
theorem wordsFrom_end {s:ByteArray} {i:Nat} (h:¬ i < s.size):wordsFrom s i=[]:=by rw [wordsFrom,if_neg h]
abbrev W30:={ x:ByteArray // 0 < x.size∧x.size≤30 }
theorem one97:0 < (ByteArray.mk #[97]).size∧(ByteArray.mk #[97]).size≤30:=by decide
def toW (x:ByteArray):W30:=if h:0 < x.size∧x.size≤30 then ⟨x,h⟩ else ⟨⟨#[97]⟩,one97⟩
theorem toW_of {x:ByteArray} (h:0 < x.size∧x.size≤30):toW x=⟨x,h⟩:=by rw [toW,dif_pos h]
def wordsW (s:ByteArray):List W30:=if txtOkB s=true then (wordsFrom s 0).map toW else []
def Start (s:ByteArray) (k:Nat):Prop:=(k < s.size→ch s k ≠ 32)∧k≤s.size+1
theorem start_zero {s:ByteArray} (h:txtOkB s=true):Start s 0:=by
 refine ⟨fun h0 hc=>?_,by omega⟩
 have hg:=((txtOkB_iff s).1 h).2 0 h0
 simp [goodB] at hg
 exact hg.1 hc
theorem start_next {s:ByteArray} (h:txtOkB s=true) {k:Nat} (hk:k < s.size) (hs:Start s k) :
  k < wend s k∧wend s k≤s.size∧Start s (wend s k+1)∧(0 < (s.extract k (wend s k)).size∧(s.extract k (wend s k)).size≤30):=by
 obtain ⟨h30,hg⟩:=(txtOkB_iff s).1 h
 obtain ⟨_,h2,_,h4⟩:=wend_spec s k (by omega)
 have h1:k < wend s k:=by rw [wend_go hk (hs.1 hk)];exact wend_ge s (k+1)
 refine ⟨h1,h2,⟨fun hlt hc=>?_,by omega⟩,?_⟩
 ·have hb:=h4 (by omega)
  have hn:=hg (wend s k+1) hlt
  simp [goodB] at hn
  rcases hn.1 with h5 | h5
  ·exact h5 hc
  ·exact h5.2 hb
 ·rw [ByteArray.size_extract];omega
theorem wordsFrom_len (s:ByteArray) (k:Nat):(wordsFrom s k).length≤s.size - k:=by
 by_cases h:k < s.size
 ·rw [wordsFrom_go h]
  have h1:=wordsFrom_len s (wend s k+1)
  have h2:=wend_ge s k
  simp
  omega
 ·rw [wordsFrom_end h];simp
termination_by s.size - k
decreasing_by have:=wend_ge s k;omega
theorem words_val_from {s:ByteArray} (hok:txtOkB s=true) (k:Nat) (hk:Start s k):((wordsFrom s k).map toW).map (fun x=>x.1)=wordsFrom s k:=by
 by_cases h:k < s.size
 ·obtain ⟨h1,h2,h3,h4⟩:=start_next hok h hk
  rw [wordsFrom_go h,List.map_cons,List.map_cons,toW_of h4,words_val_from hok _ h3]
 ·rw [wordsFrom_end h];rfl
termination_by s.size+1 - k
decreasing_by omega
theorem words_val {s:ByteArray} (hok:txtOkB s=true):(wordsW s).map (fun x=>x.1)=wordsFrom s 0:=by
 rw [wordsW,if_pos hok];exact words_val_from hok 0 (start_zero hok)
theorem words_map {s:ByteArray} (hok:txtOkB s=true):(wordsW s).map (fun x=>Value.string x.1)=(wordsFrom s 0).map Value.string:=by
 rw [← words_val hok,List.map_map];rfl
theorem words_len {s:ByteArray} (hok:txtOkB s=true):(wordsW s).length=(wordsFrom s 0).length:=by
 rw [← words_val hok,List.length_map]
theorem wordsW_len (s:ByteArray):(wordsW s).length≤30:=by
 cases hok:txtOkB s with
 | false=>rw [wordsW,if_neg (by rw [hok];simp)];simp
 | true =>
  rw [words_len hok]
  have h1:=wordsFrom_len s 0
  have h2:=((txtOkB_iff s).1 hok).1
  omega
set_option maxRecDepth 100000 in
theorem implWordEnd (s:ByteArray) (k:Nat) (hk:k≤s.size) (hs:s.size≤30) (w:World) :
  Calls Tryz.prog 89 #[.string s,.int .i64 k] w fun e w'=>e=.returned (.int .i64 (wend s k))∧w'=w:=by
 go_enter Tryz.func89,Tryz.ntmps89
 go_wp2
 go_loop [5] (fun i=>∃ m:Nat,m≤s.size∧i=.int .i64 m∧wend s m=wend s k) (fun i=>s.size - (intOf i).toNat)
 case atStart=>exact ⟨k,hk,rfl,rfl⟩
 case round =>
  obtain ⟨m,hm,rfl,HW0⟩:=hrel
  have HW:=Hd HW0
  clear HW0
  by_cases hlt:m < s.size
  ·have HC:Hid (ch s m=(s[m].toNat:Int)):=ch_at hlt
   by_cases hc:(s[m].toNat:Int)=32
   ·have hc':((s[m].toNat:Int) == 32)=true:=beq_iff_eq.2 hc
    have HE:Hid (wend s m=m):=wend_blank (HC.out.trans hc)
    clear hc HC
    go_wp2
    go_ret
    exact ⟨congrArg (fun n:Nat=>Ending.returned (Value.int .i64 (n:Int))) (HE.out.symm.trans HW.out),rfl⟩
   ·have hc':((s[m].toNat:Int) == 32)=false:=beq_eq_false_iff_ne.2 hc
    have HE:Hid (wend s m=wend s (m+1)):=wend_go hlt (fun h=>hc (HC.out.symm.trans h))
    clear hc HC
    go_wp2
    go_round
    case rel=>exact ⟨m+1,by omega,by go_num,by rw [← HE.out,HW.out]⟩
    case measure=>simp [intOf];omega
  ·have HE:Hid (wend s m=m):=wend_end hlt
   obtain rfl:m=s.size:=by omega
   go_wp2
   go_ret
   exact ⟨congrArg (fun n:Nat=>Ending.returned (Value.int .i64 (n:Int))) (HE.out.symm.trans HW.out),rfl⟩
theorem wordsOf_any (s:ByteArray) (w:World) :
  Calls Tryz.prog 52 #[.string s] w fun e w'=>e=.returned (.func (.func 88) #[] #[.pointer (some ⟨w.heap.size,0,none⟩)])∧w'=w.alloc (.cells #[.string s] 9):=by
 go_enter Tryz.func52,Tryz.ntmps52
 go_wp2
 go_ret
 exact ⟨rfl,rfl⟩
end Go.Proofs.YtggmjiddadjilaeGreat
