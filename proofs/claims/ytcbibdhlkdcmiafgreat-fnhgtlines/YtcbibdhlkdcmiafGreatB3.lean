/-
  PROVED HERE: the words of a text, and what the program's own wordEnd and wordsOf answer; nothing that was in memory is turned. Also: the program's own iterator over the words of a text, for every loop that goes over it; nothing that was in memory is turned. Also: what a strings.Builder that a call has made itself, and that may have been read, answers to copyCheck, WriteByte, WriteString and Reset: it holds what was written; nothing in memory is turned but it and rows of bytes behind its beginning. Also: how lines are built of words, and what stands in memory while the program builds them: what each step leaves.
-/
import Derived.Test.YtcbibdhlkdcmiafGreatB1
import Derived.RangeFuncNested
import Derived.RangeFuncBound
import Derived.RangeFuncCalls
import Derived.RangeFuncLeaves
import Derived.Shelf.Abstract
import Derived.Shelf.RegionOpen
import Derived.WalkKit
import Derived.OwnWalkIn
import Derived.TacticsInMore
import Derived.LoopNIn
import Derived.LoopIn
import Derived.RangeFuncFrom
import Derived.Lib.Builder
import Derived.Lib.FrozenHead
import Derived.Lib.FrozenHead2
import Derived.Lib.OthersKept
import Derived.Lib.AppendStr
import Derived.Lib.Slices
import Derived.Lib.Walk
import Derived.Laws.Externs
import Derived.OwnWalk
import Derived.Lib.SmallJoins
import Derived.WalkLawsBesides
import Derived.WalkSpells
import Derived.Test.YtcbibdhlkdcmiafGreatShelf
import Derived.RangeFuncBox
import Derived.Maps.AppendAt
namespace Go.Proofs.YtcbibdhlkdcmiafGreat
open Go.RowKit Go.Shelf

/-- where the word that begins at a place ends -/
def wend (s:ByteArray) (i:Nat):Nat:=if i < s.size∧ch s i ≠ 32 then wend s (i+1) else i
termination_by s.size - i
theorem wend_go {s:ByteArray} {i:Nat} (h1:i < s.size) (h2:ch s i ≠ 32):wend s i=wend s (i+1):=by rw [wend,if_pos ⟨h1,h2⟩]
theorem wend_blank {s:ByteArray} {i:Nat} (h2:ch s i=32):wend s i=i:=by rw [wend,if_neg (fun h=>h.2 h2)]
theorem wend_end {s:ByteArray} {i:Nat} (h1:¬ i < s.size):wend s i=i:=by rw [wend,if_neg (fun h=>h1 h.1)]
theorem wend_spec (s:ByteArray) (i:Nat) (hi:i≤s.size):i≤wend s i∧wend s i≤s.size∧(∀ j,i≤j→j < wend s i→ch s j ≠ 32)∧(wend s i < s.size→ch s (wend s i)=32):=by
 by_cases h:i < s.size∧ch s i ≠ 32
 ·rw [wend_go h.1 h.2]
  obtain ⟨h1,h2,h3,h4⟩:=wend_spec s (i+1) (by omega)
  refine ⟨by omega,h2,fun j hj1 hj2=>?_,h4⟩
  rcases Nat.lt_or_eq_of_le hj1 with hlt | rfl
  ·exact h3 j hlt hj2
  ·exact h.2
 ·rw [wend,if_neg h]
  exact ⟨Nat.le_refl _,hi,fun j h1 h2=>absurd h2 (by omega),fun hlt=>Classical.byContradiction (fun hc=>h ⟨hlt,hc⟩)⟩
termination_by s.size - i
theorem wend_of {s:ByteArray} {i e:Nat} (h:∀ j,i≤j→j < e→ch s j ≠ 32) (hie:i≤e) (he:e≤s.size) (hb:e < s.size→ch s e=32):wend s i=e:=by
 rcases Nat.lt_or_eq_of_le hie with hlt | rfl
 ·rw [wend_go (by omega) (h i (Nat.le_refl _) hlt)]
  exact wend_of (fun j h1 h2=>h j (by omega) h2) hlt he hb
 ·by_cases hs:i < s.size
  ·exact wend_blank (hb hs)
  ·exact wend_end hs
termination_by e - i
theorem wend_ge (s:ByteArray) (i:Nat):i≤wend s i:=by
 by_cases h:i < s.size∧ch s i ≠ 32
 ·rw [wend_go h.1 h.2]
  have:=wend_ge s (i+1)
  omega
 ·rw [wend,if_neg h]
  exact Nat.le_refl _
termination_by s.size - i

/-- the words from a place on -/
def wordsFrom (s:ByteArray) (i:Nat):List ByteArray:=if i < s.size then s.extract i (wend s i) :: wordsFrom s (wend s i+1) else []
termination_by s.size - i
decreasing_by have:=wend_ge s i;omega
theorem wordsFrom_go {s:ByteArray} {i:Nat} (h:i < s.size):wordsFrom s i=s.extract i (wend s i) :: wordsFrom s (wend s i+1):=by rw [wordsFrom,if_pos h]
theorem wordsFrom_end {s:ByteArray} {i:Nat} (h:¬ i < s.size):wordsFrom s i=[]:=by rw [wordsFrom,if_neg h]

/-- a word: of one byte at least, and thirty at most -/
abbrev W30:={ x:ByteArray // 0 < x.size∧x.size≤30 }
theorem one97:0 < (ByteArray.mk #[97]).size∧(ByteArray.mk #[97]).size≤30:=by decide
def toW (x:ByteArray):W30:=if h:0 < x.size∧x.size≤30 then ⟨x,h⟩ else ⟨⟨#[97]⟩,one97⟩
theorem toW_of {x:ByteArray} (h:0 < x.size∧x.size≤30):toW x=⟨x,h⟩:=by rw [toW,dif_pos h]
/-- the words of a text; none of one that is not ok -/
def wordsW (s:ByteArray):List W30:=if txtOkB s=true then (wordsFrom s 0).map toW else []

/-- a place where a word begins, or one behind the text -/
def Start (s:ByteArray) (k:Nat):Prop:=(k < s.size→ch s k ≠ 32)∧k≤s.size+1
theorem start_zero {s:ByteArray} (h:txtOkB s=true):Start s 0:=by
 refine ⟨fun h0 hc=>?_,by omega⟩
 have hg:=((txtOkB_iff s).1 h).2 0 h0
 simp [goodB] at hg
 exact hg.1 hc
theorem start_next {s:ByteArray} (h:txtOkB s=true) {k:Nat} (hk:k < s.size) (hs:Start s k) :
  k < wend s k∧wend s k≤s.size∧Start s (wend s k+1)∧(0 < (s.extract k (wend s k)).size∧(s.extract k (wend s k)).size≤30):=by
 obtain ⟨h30,hg⟩:=(txtOkB_iff s).1 h
 obtain ⟨_,h2,_,h4⟩:=wend_spec s k (by omega)
 have h1:k < wend s k:=by rw [wend_go hk (hs.1 hk)];exact wend_ge s (k+1)
 refine ⟨h1,h2,⟨fun hlt hc=>?_,by omega⟩,?_⟩
 ·have hb:=h4 (by omega)
  have hn:=hg (wend s k+1) hlt
  simp [goodB] at hn
  rcases hn.1 with h5 | h5
  ·exact h5 hc
  ·exact h5.2 hb
 ·rw [ByteArray.size_extract];omega
theorem wordsFrom_len (s:ByteArray) (k:Nat):(wordsFrom s k).length≤s.size - k:=by
 by_cases h:k < s.size
 ·rw [wordsFrom_go h]
  have h1:=wordsFrom_len s (wend s k+1)
  have h2:=wend_ge s k
  simp
  omega
 ·rw [wordsFrom_end h];simp
termination_by s.size - k
decreasing_by have:=wend_ge s k;omega

theorem words_val_from {s:ByteArray} (hok:txtOkB s=true) (k:Nat) (hk:Start s k):((wordsFrom s k).map toW).map (fun x=>x.1)=wordsFrom s k:=by
 by_cases h:k < s.size
 ·obtain ⟨h1,h2,h3,h4⟩:=start_next hok h hk
  rw [wordsFrom_go h,List.map_cons,List.map_cons,toW_of h4,words_val_from hok _ h3]
 ·rw [wordsFrom_end h];rfl
termination_by s.size+1 - k
decreasing_by omega
theorem words_val {s:ByteArray} (hok:txtOkB s=true):(wordsW s).map (fun x=>x.1)=wordsFrom s 0:=by
 rw [wordsW,if_pos hok];exact words_val_from hok 0 (start_zero hok)
theorem words_map {s:ByteArray} (hok:txtOkB s=true):(wordsW s).map (fun x=>Value.string x.1)=(wordsFrom s 0).map Value.string:=by
 rw [← words_val hok,List.map_map];rfl
theorem words_len {s:ByteArray} (hok:txtOkB s=true):(wordsW s).length=(wordsFrom s 0).length:=by
 rw [← words_val hok,List.length_map]
theorem wordsW_len (s:ByteArray):(wordsW s).length≤30:=by
 cases hok:txtOkB s with
 | false=>rw [wordsW,if_neg (by rw [hok];simp)];simp
 | true =>
  rw [words_len hok]
  have h1:=wordsFrom_len s 0
  have h2:=((txtOkB_iff s).1 hok).1
  omega

set_option maxRecDepth 100000 in
theorem implWordEnd (s:ByteArray) (k:Nat) (hk:k≤s.size) (hs:s.size≤30) (w:World) :
  Calls Tryz.prog 118 #[.string s,.int .i64 k] w fun e w'=>e=.returned (.int .i64 (wend s k))∧w'=w:=by
 go_enter Tryz.func118,Tryz.ntmps118
 go_wp2
 go_loop [5] (fun i=>∃ m:Nat,m≤s.size∧i=.int .i64 m∧wend s m=wend s k) (fun i=>s.size - (intOf i).toNat)
 case atStart=>exact ⟨k,hk,rfl,rfl⟩
 case round =>
  obtain ⟨m,hm,rfl,HW0⟩:=hrel
  have HW:=Hid.intro HW0
  clear HW0
  by_cases hlt:m < s.size
  ·have HC:Hid (ch s m=(s[m].toNat:Int)):=ch_at hlt
   by_cases hc:(s[m].toNat:Int)=32
   ·have hc':((s[m].toNat:Int) == 32)=true:=beq_iff_eq.2 hc
    have HE:Hid (wend s m=m):=wend_blank (HC.out.trans hc)
    clear hc HC
    go_wp2
    go_ret
    exact ⟨congrArg (fun n:Nat=>Ending.returned (Value.int .i64 (n:Int))) (HE.out.symm.trans HW.out),rfl⟩
   ·have hc':((s[m].toNat:Int) == 32)=false:=beq_eq_false_iff_ne.2 hc
    have HE:Hid (wend s m=wend s (m+1)):=wend_go hlt (fun h=>hc (HC.out.symm.trans h))
    clear hc HC
    go_wp2
    go_round
    case rel=>exact ⟨m+1,by omega,by go_num,by rw [← HE.out,HW.out]⟩
    case measure=>simp [intOf];omega
  ·have HE:Hid (wend s m=m):=wend_end hlt
   obtain rfl:m=s.size:=by omega
   go_wp2
   go_ret
   exact ⟨congrArg (fun n:Nat=>Ending.returned (Value.int .i64 (n:Int))) (HE.out.symm.trans HW.out),rfl⟩

theorem wordsOf_any (s:ByteArray) (w:World) :
  Calls Tryz.prog 91 #[.string s] w fun e w'=>e=.returned (.func (.func 117) #[] #[.pointer (some ⟨w.heap.size,0,none⟩)])∧w'=w.alloc (.cells #[.string s] 9):=by
 go_enter Tryz.func91,Tryz.ntmps91
 go_wp2
 go_ret
 exact ⟨rfl,rfl⟩
end Go.Proofs.YtcbibdhlkdcmiafGreat
namespace Go.Proofs.YtcbibdhlkdcmiafGreat
open Go.RowKit Go.Shelf
attribute [local go_sem] Oper.semAt_some


set_option maxRecDepth 100000 in
set_option maxHeartbeats 1000000 in
theorem words1_in (l B:Nat) (s:ByteArray) (hs:s.size≤maxLen) (J Jx:List W30→World→Prop)
  (hY:∀ pre x W,J pre W→pre.length < (wordsW s).length→YieldAt Fence.wide 2 Tryz.prog l #[.string x.1] W fun e W' =>
   (e=.returned (.bool true)∧J (pre ++ [x]) W'∧BoxK B W W')∨(e=.returned (.bool false)∧Jx (pre ++ [x]) W'))
  (W:World) (hB:W.heap[B]?=some (.cells #[.string s] 9)) (h0:J [] W) :
  CallsIn Fence.wide 3 Tryz.prog 117 #[.func (.yield l) #[] #[],.pointer (some ⟨B,0,none⟩)] W fun e W'=>(∃ v,e=.returned v) ∧
   ((∃ ys,ys=wordsW s∧J ys W')∨(∃ pre,pre <+: wordsW s∧Jx pre W')):=by
 have c0:W.cell? ⟨B,0,none⟩=some (.string s):=by simp [World.cell?,hB]
 refine callsIn_of_wp Tryz.func117 rfl trivial ?_ rfl
 simp only [Tryz.ntmps117,List.size_toArray,List.length_cons,List.length_nil,Nat.reduceAdd,Nat.reduceSub,Array.replicate_succ,Array.replicate_zero,List.push_toArray,List.append_toArray,List.nil_append,List.cons_append]
 cases hok:txtOkB s with
 | false =>
  have hw0:wordsW s=[]:=by rw [wordsW,if_neg (by rw [hok];simp)]
  gi_wp2_with (refine ⟨trivial,?_⟩;gi_at_call 45;refine (callsIn_wide.2 (implTxtOk s _ hs)).mono ?_;rintro e w' ⟨rfl,rfl⟩;rw [hok])
  refine bodyPost_ret (results_none rfl _ _ _) rfl ?_
  exact ⟨⟨_,rfl⟩,.inl ⟨[],hw0.symm,h0⟩⟩
 | true =>
  have h30:s.size≤30:=((txtOkB_iff s).1 hok).1
  have hw0:wordsW s=(wordsFrom s 0).map toW:=by rw [wordsW,if_pos hok]
  have HT:Hid (Start s 0):=start_zero hok
  gi_wp2_with (refine ⟨trivial,?_⟩;gi_at_call 45;refine (callsIn_wide.2 (implTxtOk s _ hs)).mono ?_;rintro e w' ⟨rfl,rfl⟩;rw [hok])
  gi_loopw [3] (fun i wr=>∃ (k:Nat) (pre:List W30),i=.int .i64 k∧Hid (Start s k)∧Hid (wordsW s=pre ++ (wordsFrom s k).map toW)∧wr.heap[B]?=some (.cells #[.string s] 9)∧J pre wr) (fun i _=>s.size+1 - (intOf i).toNat)
  case atStart=>exact ⟨0,[],rfl,HT,by rw [List.nil_append];exact hw0,hB,h0⟩
  case round =>
   obtain ⟨k,pre,rfl,HS,HW,hBr,hJ⟩:=hrel
   have cr:wr.cell? ⟨B,0,none⟩=some (.string s):=by simp [World.cell?,hBr]
   by_cases hlt:k < s.size
   ·obtain ⟨h1,h2,h3,h4⟩:=start_next hok hlt HS.out
    have HN:=Hid.intro h3
    have HG:Hid (wordsFrom s k=s.extract k (wend s k) :: wordsFrom s (wend s k+1)):=wordsFrom_go hlt
    have HP:Hid (wordsW s=(pre ++ [⟨s.extract k (wend s k),h4⟩]) ++ (wordsFrom s (wend s k+1)).map toW):=by
     show wordsW s=_
     rw [HW.out,HG.out,List.map_cons,toW_of h4];simp
    have hlen:pre.length < (wordsW s).length:=by rw [HP.out];simp
    obtain ⟨fn,tmps,assign,body,hy,hR⟩:=hY pre ⟨s.extract k (wend s k),h4⟩ wr hJ hlen
    dsimp only at hy
    have HE:=implWordEnd s k (by omega) h30 wr
    generalize wend s k=m at *
    clear h3
    gi_wp2_with (refine ⟨trivial,?_⟩;gi_at_call 118;refine (callsIn_wide.2 HE).mono ?_;rintro e w' ⟨rfl,rfl⟩)
    refine hR.mono ?_
    rintro e W3 (⟨rfl,hJ3,hk3⟩ | ⟨rfl,hJx3⟩)
    ·have hB3:=Eq.trans hk3 hBr
     gi_wp2
     go_roundw
     case rel=>exact ⟨m+1,_,by go_num,HN,HP,hB3,hJ3⟩
     case measure=>simp [intOf];omega
    ·gi_wp2
     refine bodyPost_ret (results_none rfl _ _ _) rfl ?_
     exact ⟨⟨_,rfl⟩,.inr ⟨_,⟨_,HP.out.symm⟩,hJx3⟩⟩
   ·have HZ:Hid (wordsFrom s k=[]):=wordsFrom_end hlt
    gi_wp2
    go_end0
    exact ⟨⟨_,rfl⟩,.inl ⟨pre,by rw [HW.out,HZ.out];simp,hJ⟩⟩

/-- what the value that wordsOf hands back does, whatever loop goes over it -/
theorem words_stops (B:Nat) (s:ByteArray) (hs:s.size≤maxLen) (w:World) (hBn:B < w.heap.size) (hc:w.heap[B]?=some (.cells #[.string s] 9)) :
  SeqStopsK Fence.wide 3 Tryz.prog 117 #[.pointer (some ⟨B,0,none⟩)] (fun x:W30=>#[Value.string x.1]) (BoxK B) (fun ys=>ys=wordsW s) (fun pre=>pre <+: wordsW s) (wordsW s).length w:=fun l J Jx W hW _ _ hY h0 =>
 words1_in l B s hs J Jx hY W ((hW.block B hBn).trans hc) h0

end Go.Proofs.YtcbibdhlkdcmiafGreat
namespace Go.Proofs.YtcbibdhlkdcmiafGreat
open Go.RowKit

theorem liesBld:liesAt Tryz.prog Tryz.prog.depth 93 (2 / Tryz.prog.cellsOf 93) 0 93 1=true:=by kernel_rfl
theorem sizeBld:(Tryz.prog.info? 93).map (fun i=>i.size)=some 2:=by kernel_rfl

set_option maxRecDepth 100000 in
set_option maxHeartbeats 1000000 in
theorem copyUsed (b:Nat) (w:World) (h0:w.cell? ⟨b,0,none⟩=some (.pointer (some ⟨b,0,none⟩))) :
  Calls Tryz.prog 102 #[.pointer (some ⟨b,0,none⟩)] w fun e w'=>e=.returned (.tuple #[])∧w'=w:=by
 obtain ⟨j,hj,_⟩:=Option.map_eq_some_iff.1 sizeBld
 go_enter Tryz.func102,Tryz.ntmps102
 go_wp2
 rw [Lib.run_neq_ptr_same w _ Tryz.underlying91 hj]
 go_wp2
 go_end0
 exact ⟨rfl,rfl⟩

set_option maxRecDepth 100000 in
set_option maxHeartbeats 1000000 in
theorem copyFresh (b:Nat) (w:World) (h0:w.cell? ⟨b,0,none⟩=some (.pointer none)) (hsh:w.shape? b=some (93,2)) (hfz:w.frozen? ⟨b,0,none⟩=false) :
  Calls Tryz.prog 102 #[.pointer (some ⟨b,0,none⟩)] w fun e w'=>e=.returned (.tuple #[])∧w'=w.setCell ⟨b,0,none⟩ (.pointer (some ⟨b,0,none⟩)):=by
 obtain ⟨j,hj,hjs⟩:=Option.map_eq_some_iff.1 sizeBld
 go_enter Tryz.func102,Tryz.ntmps102
 go_wp2
 rw [Lib.run_to_unsafe w ⟨b,0,none⟩ Tryz.underlying91 Tryz.underlying156 hj (by rw [hjs];decide) hsh (Nat.zero_lt_succ 1)]
 simp only [Result.andThen]
 rw [Oper.upon_value]
 go_wp2
 rw [run_callFunc_extern Tryz.func125 (by kernel_rfl) (by kernel_rfl) (by kernel_rfl) (e:=Extern.AbiNoEscape.same) (by kernel_rfl)]
 rw [Lib.run_noEscape]
 simp only [Result.andThen]
 rw [Oper.upon_value]
 go_wp2
 rw [Lib.run_from_unsafe w ⟨b,0,none⟩ Tryz.underlying156 Tryz.underlying91 hj hsh liesBld]
 simp only [Result.andThen]
 rw [Oper.upon_value]
 go_wp2
 go_end0
 exact ⟨rfl,rfl⟩

theorem copyAny (B b:Nat) (bs:List Value) (w:World) (h:Lib.IsBuilderF 93 5 B b bs w) :
  Calls Tryz.prog 102 #[.pointer (some ⟨b,0,none⟩)] w fun e w'=>e=.returned (.tuple #[])∧(Lib.BuilderAtF 93 5 B b (.pointer (some ⟨b,0,none⟩)) bs w'∧Below B w w'∧Lib.OthersKept 5 (some b) w w'):=by
 rcases h with h | h
 ·refine (copyFresh b w h.cell0 h.shape h.frozen0).mono ?_
  rintro e w' ⟨rfl,rfl⟩
  exact ⟨rfl,h.used _,(Below.refl B w).setCell (p:=⟨b,0,none⟩) h.1 _,(Lib.OthersKept.refl _ _ w).setCell ⟨b,0,none⟩ rfl _⟩
 ·refine (copyUsed b w h.cell0).mono ?_
  rintro e w' ⟨rfl,rfl⟩
  exact ⟨rfl,h,Below.refl B _,Lib.OthersKept.refl _ _ _⟩

theorem info8:(Tryz.prog.info? 5).map (fun i=>(i.zero,i.size,i.bytes))=some (some (.int .u8 0),1,1):=by kernel_rfl

theorem ne8:(93:Nat) ≠ 5:=by decide
theorem blt {w:World} {b:Nat} {o:Obj} (h:w.heap[b]?=some o):b < w.heap.size:=(Array.getElem?_eq_some_iff.1 h).1

set_option maxRecDepth 100000 in
set_option maxHeartbeats 1000000 in
theorem writeString (B b:Nat) (bs:List Value) (s:ByteArray) (w:World) (h:Lib.IsBuilderF 93 5 B b bs w) (hlen:bs.length+s.size≤140737488355328) (hBw:B≤w.heap.size) :
  Calls Tryz.prog 64 #[.pointer (some ⟨b,0,none⟩),.string s] w fun e w'=>e=.returned (.tuple #[.int .i64 s.size,.nilIface])∧(Lib.BuilderAtF 93 5 B b (.pointer (some ⟨b,0,none⟩)) (bs ++ Lib.strCells s) w'∧Below B w w'∧Lib.OthersKept 5 (some b) w w'):=by
 obtain ⟨i0,hi,hz0,hz1,hz2⟩:=info_parts info8
 go_enter Tryz.func64,Tryz.ntmps64
 go_wp2_with (go_at_call 102;refine (copyAny B b bs _ h).mono ?_)
 rintro e w1 ⟨rfl,h1,hb1,hk1⟩
 obtain ⟨hB,v,hbk,hown,hne⟩:=h1
 have c0:w1.cell? ⟨b,0,none⟩=some (.pointer (some ⟨b,0,none⟩)):=by rw [Lib.cell_of_heap hbk];rfl
 have c1:w1.cell? ⟨b,1,none⟩=some v:=by rw [Lib.cell_of_heap hbk];rfl
 go_wp2_with (at_builtin;refine Lib.wpList_append_own_stringF _ rfl _ _ 22 9 rfl B 5 i0 Tryz.underlying22 Tryz.underlying9 hi hz0 hz1 hz2 _ _ _ rfl hown s rfl ?c3 ?c4 ?c5 ?_)
 case c3=>unfold maxLen;omega
 case c4=>omega
 case c5=>have:=hb1.size;omega
 intro v' w2 hown' hgrow _
 have hb2:w2.heap[b]?=some (.cells #[.pointer (some ⟨b,0,none⟩),v] 93 (0,0)):=by
  rw [hgrow.block b (blt hbk) (fun e=>hne e.symm)]
  exact hbk
 have d0:w2.cell? ⟨b,0,none⟩=some (.pointer (some ⟨b,0,none⟩)):=by rw [Lib.cell_of_heap hb2];rfl
 have d1:w2.cell? ⟨b,1,none⟩=some v:=by rw [Lib.cell_of_heap hb2];rfl
 have f1:w2.frozen? ⟨b,1,none⟩=false:=Lib.frozen_of_heap hb2 1
 obtain ⟨ao,n',cap,rfl⟩:∃ ao n' cap,v'=.slice ao n' cap:=by
  rcases hown'.2 with ⟨hv,_⟩ | ⟨g,cap,cur,fz,hv,_⟩
  ·exact ⟨_,_,_,hv⟩
  ·exact ⟨_,_,_,hv⟩
 go_wp2
 go_ret2
 refine ⟨rfl,?_,?_,(hk1.grown hgrow (Lib.ownsRowF_kind hown)).setCell ⟨b,1,none⟩ rfl _⟩
 ·exact Lib.BuilderAtF.put (T:=93) (e:=5) hB hb2 (bs':=bs ++ Lib.strCells s) (by simpa [Lib.strCells_length] using hown') ne8
 ·exact (hb1.grown hgrow (by have:=hb1.size;omega) (fun k hk=>(hown.lt k hk).1)).setCell (p:=⟨b,1,none⟩) hB _

set_option maxRecDepth 100000 in
set_option maxHeartbeats 1000000 in
theorem writeByte (B b:Nat) (bs:List Value) (c:Int) (w:World) (h:Lib.IsBuilderF 93 5 B b bs w) (hlen:bs.length+1≤140737488355328) (hBw:B≤w.heap.size) :
  Calls Tryz.prog 63 #[.pointer (some ⟨b,0,none⟩),.int .u8 c] w fun e w'=>e=.returned .nilIface∧(Lib.BuilderAtF 93 5 B b (.pointer (some ⟨b,0,none⟩)) (bs ++ [.int .u8 c]) w'∧Below B w w'∧Lib.OthersKept 5 (some b) w w'):=by
 obtain ⟨i0,hi,hz0,hz1,hz2⟩:=info_parts info8
 go_enter Tryz.func63,Tryz.ntmps63
 go_wp2_with (go_at_call 102;refine (copyAny B b bs _ h).mono ?_)
 rintro e w1 ⟨rfl,h1,hb1,hk1⟩
 obtain ⟨hB,v,hbk,hown,hne⟩:=h1
 have c0:w1.cell? ⟨b,0,none⟩=some (.pointer (some ⟨b,0,none⟩)):=by rw [Lib.cell_of_heap hbk];rfl
 have c1:w1.cell? ⟨b,1,none⟩=some v:=by rw [Lib.cell_of_heap hbk];rfl
 go_wp2_with (at_builtin;refine wpList_append_ownF _ rfl _ _ 22 rfl B 5 i0 (.int .u8 0) 1 1 Tryz.underlying22 hi hz0 hz1 hz2 rfl (by decide) _ _ _ rfl (hown.alloc _) ⟨w1.heap.size,0,none⟩ 1 1 [.int .u8 c] rfl rfl ?c1 ?c2 ?c3 ?c4 ?c5 ?_)
 case c1 =>
  intro j u hj
  match j,hj with
  | 0,hj=>simp at hj;subst hj;simp [Addr.add]
 case c2=>intro u hu;simp at hu;subst hu;rfl
 case c3=>unfold maxLen;omega
 case c4=>omega
 case c5=>have:=hb1.size;simp;omega
 intro v' w2 hown' hgrow _
 have hlt:=blt hbk
 have hb2:w2.heap[b]?=some (.cells #[.pointer (some ⟨b,0,none⟩),v] 93 (0,0)):=by
  rw [hgrow.block b (by simp;omega) (fun e=>hne e.symm),Lib.alloc_old w1 _ b hlt]
  exact hbk
 have d0:w2.cell? ⟨b,0,none⟩=some (.pointer (some ⟨b,0,none⟩)):=by rw [Lib.cell_of_heap hb2];rfl
 have d1:w2.cell? ⟨b,1,none⟩=some v:=by rw [Lib.cell_of_heap hb2];rfl
 have f1:w2.frozen? ⟨b,1,none⟩=false:=Lib.frozen_of_heap hb2 1
 obtain ⟨ao,n',cap,rfl⟩:∃ ao n' cap,v'=.slice ao n' cap:=by
  rcases hown'.2 with ⟨hv,_⟩ | ⟨g,cap,cur,fz,hv,_⟩
  ·exact ⟨_,_,_,hv⟩
  ·exact ⟨_,_,_,hv⟩
 go_wp2
 go_ret
 refine ⟨rfl,?_,?_,((hk1.alloc _).grown hgrow (Lib.ownsRowF_kind (hown.alloc _))).setCell ⟨b,1,none⟩ rfl _⟩
 ·exact Lib.BuilderAtF.put (T:=93) (e:=5) hB hb2 (bs':=bs ++ [.int .u8 c]) (by simpa using hown') ne8
 ·exact ((hb1.alloc (by have:=hb1.size;omega) _).grown hgrow (by have:=hb1.size;simp;omega) (fun k hk=>(hown.lt k hk).1)).setCell (p:=⟨b,1,none⟩) hB _

set_option maxRecDepth 100000 in
theorem resetAny (B b:Nat) (bs:List Value) (w:World) (h:Lib.IsBuilderF 93 5 B b bs w) :
  Calls Tryz.prog 95 #[.pointer (some ⟨b,0,none⟩)] w fun e w'=>e=.returned (.tuple #[])∧(Lib.IsBuilderF 93 5 B b [] w'∧Below B w w'∧Lib.OthersKept 5 (some b) w w'):=by
 obtain ⟨p,v,hB,hbk⟩:∃ p v,B≤b∧w.heap[b]?=some (.cells #[p,v] 93 (0,0)):=by
  rcases h with ⟨hB,v,hb,_⟩ | ⟨hB,v,hb,_⟩
  ·exact ⟨_,v,hB,hb⟩
  ·exact ⟨_,v,hB,hb⟩
 have c0:w.cell? ⟨b,0,none⟩=some p:=by rw [Lib.cell_of_heap hbk];rfl
 have c1:w.cell? ⟨b,1,none⟩=some v:=by rw [Lib.cell_of_heap hbk];rfl
 have f0:w.frozen? ⟨b,0,none⟩=false:=Lib.frozen_of_heap hbk 0
 have f1:w.frozen? ⟨b,1,none⟩=false:=Lib.frozen_of_heap hbk 1
 go_enter Tryz.func95,Tryz.ntmps95
 go_wp2
 go_end0
 refine ⟨rfl,Or.inl ⟨hB,.slice none 0 0,?_,World.ownsRowF_of (World.ownsRow_nil _ _ _ _),by simp [Value.ownBlock]⟩,((Below.refl B w).setCell (p:=⟨b,0,none⟩) hB _).setCell (p:=⟨b,1,none⟩) hB _,((Lib.OthersKept.refl _ _ w).setCell ⟨b,0,none⟩ rfl _).setCell ⟨b,1,none⟩ rfl _⟩
 rw [Joins.block_setCell (Joins.block_setCell hbk _)]
 rfl
end Go.Proofs.YtcbibdhlkdcmiafGreat
namespace Go.Proofs.YtcbibdhlkdcmiafGreat
open Go.RowKit Go.Shelf

/-- the lines that are full, and the one that is being built, behind one more word -/
def stepLn (q:Int) (st:List ByteArray × ByteArray) (x:ByteArray):List ByteArray × ByteArray :=
 if 0 < st.2.size then (if q < (st.2.size:Int)+1+x.size then (st.1 ++ [st.2],x) else (st.1,st.2 ++ ⟨#[32]⟩ ++ x)) else (st.1,x)
def lnSt (q:Int) (ws:List W30):List ByteArray × ByteArray:=ws.foldl (fun st x=>stepLn q st x.1) ([],⟨#[]⟩)
def lnOut (st:List ByteArray × ByteArray):List ByteArray:=if 0 < st.2.size then st.1 ++ [st.2] else st.1
theorem lnSt_snoc (q:Int) (ws:List W30) (x:W30):lnSt q (ws ++ [x])=stepLn q (lnSt q ws) x.1:=by simp [lnSt]
theorem lnSt_bound (q:Int) (ws:List W30):(lnSt q ws).1.length≤ws.length∧(lnSt q ws).2.size≤31 * ws.length:=by
 suffices h:∀ (l:List W30) (st:List ByteArray × ByteArray) (n:Nat),st.1.length≤n→st.2.size≤31 * n→(l.foldl (fun st x=>stepLn q st x.1) st).1.length≤n+l.length∧(l.foldl (fun st x=>stepLn q st x.1) st).2.size≤31 * (n+l.length) by
  have:=h ws ([],⟨#[]⟩) 0 (by simp) (by simp;rfl)
  simpa [lnSt] using this
 intro l
 induction l with
 | nil=>intro st n h1 h2;exact ⟨by simpa using h1,by simpa using h2⟩
 | cons x r ih =>
  intro st n h1 h2
  have hx:=x.2.2
  have h3:(stepLn q st x.1).1.length≤n+1∧(stepLn q st x.1).2.size≤31 * (n+1):=by
   unfold stepLn
   split
   ·split
    ·exact ⟨by simp;omega,by dsimp only;omega⟩
    ·refine ⟨by dsimp only;omega,?_⟩
     dsimp only
     rw [ByteArray.size_append,ByteArray.size_append]
     have:(ByteArray.mk #[32]).size=1:=rfl
     omega
   ·exact ⟨by dsimp only;omega,by dsimp only;omega⟩
  have:=ih (stepLn q st x.1) (n+1) h3.1 h3.2
  rw [List.foldl_cons,List.length_cons]
  exact ⟨by omega,by omega⟩

/-- what stands in memory between two rounds, but for the builder -/
def LS0 (w:World) (s:ByteArray) (q:Int) (v:Value) (lines:List ByteArray) (W:World):Prop :=
 Boxed W w.heap.size 3 (.int .i64 q)∧Boxed W (w.heap.size+1) 51 v∧W.ownsRow (w.heap.size+4) 9 1 v lines.length (lines.map Value.string)∧Boxed W (w.heap.size+3) 9 (.string s)∧Below w.heap.size w W
/-- the builder -/
def BS (w:World) (line:ByteArray) (W:World):Prop:=Lib.IsBuilderF 93 5 (w.heap.size+2) (w.heap.size+2) (Lib.strCells line) W
/-- what a step keeps of what is not the loop's own -/
def Fr (w W W':World):Prop:=KeepsOthers W W'∧BoxK (w.heap.size+3) W W'
theorem Fr.trans {w a b c:World} (h:Fr w a b) (k:Fr w b c):Fr w a c:=⟨h.1.trans k.1,h.2.trans k.2⟩
theorem Fr.drewN (w W:World) (n:Nat):Fr w W (W.drewN n):=⟨⟨Nat.le_refl _,fun _ _ h _=>h⟩,rfl⟩
theorem BS.block {w W:World} {line:ByteArray} (h:BS w line W):∃ c,W.heap[w.heap.size+2]?=some (.cells c 93 (0,0)):=by
 rcases h with ⟨_,v,hb,_⟩ | ⟨_,v,hb,_⟩
 ·exact ⟨_,hb⟩
 ·exact ⟨_,hb⟩
theorem builder_step {w W W':World} {s:ByteArray} {q:Int} {v:Value} {lines:List ByteArray} {line:ByteArray} (h:LS0 w s q v lines W) (hb:BS w line W) (k:Below (w.heap.size+2) W W') (ko:Lib.OthersKept 5 (some (w.heap.size+2)) W W') :
  LS0 w s q v lines W'∧Fr w W W':=by
 obtain ⟨h1,h2,h3,h4,h5⟩:=h
 obtain ⟨c,hc⟩:=hb.block
 have e3:W'.heap[w.heap.size+3]?=W.heap[w.heap.size+3]?:=(ko _ _ h4 (by simp) (by intro c fz e;cases e)).trans (Eq.symm h4)
 refine ⟨⟨(k.block _ (by omega)).trans h1,(k.block _ (by omega)).trans h2,?_,e3.trans h4,h5.trans (k.mono (by omega))⟩,⟨k.size,fun j o hj ho=>?_⟩,e3⟩
 ·refine ⟨h3.1,h3.2.elim Or.inl (fun ⟨g,cap,cur,hv,hg,hcg,r⟩=>Or.inr ⟨g,cap,cur,hv,hg,ko g _ hcg (by intro e;cases e;omega) (by intro c fz e;cases e),r⟩)⟩
 ·refine ko j o hj (fun e=>?_) (fun c fz e=>?_)
  ·cases e;rw [hc] at hj;cases hj;cases ho
  ·subst e;cases ho
theorem BS.keep {w W W':World} {line:ByteArray} (h:BS w line W) (hb:W'.heap[w.heap.size+2]?=W.heap[w.heap.size+2]?) (hg:∀ g c fz,w.heap.size+2≤g→W.heap[g]?=some (.cells c 5 fz)→W'.heap[g]?=W.heap[g]?):BS w line W':=by
 have hrow:∀ v,W.ownsRowF (w.heap.size+2) 5 1 v (Lib.strCells line).length (Lib.strCells line)→W'.ownsRowF (w.heap.size+2) 5 1 v (Lib.strCells line).length (Lib.strCells line):=fun v h3 =>
  ⟨h3.1,h3.2.elim Or.inl (fun ⟨g,cap,cur,fz,hv,hgb,hcg,r⟩=>Or.inr ⟨g,cap,cur,fz,hv,hgb,(hg g cur fz hgb hcg).trans hcg,r⟩)⟩
 rcases h with ⟨hB,v,hk,h3,h4⟩ | ⟨hB,v,hk,h3,h4⟩
 ·exact Or.inl ⟨hB,v,hb.trans hk,hrow v h3,h4⟩
 ·exact Or.inr ⟨hB,v,hb.trans hk,hrow v h3,h4⟩
theorem lines_step {w W w1 w2:World} {s:ByteArray} {q:Int} {v v':Value} {lines:List ByteArray} {line:ByteArray} (h:LS0 w s q v lines W) (hb:BS w line W) (k:Below (w.heap.size+2) W w1) (ko:Lib.OthersKept 5 (some (w.heap.size+2)) W w1) (hb1:BS w line w1)
  (hown':w2.ownsRow (w.heap.size+4) 9 1 v' (lines.length+1) (lines.map Value.string ++ [.string line])) (hgrow:(w1.alloc (.cells #[.string line] 9)).grownBy w2 v.ownBlock) :
  Boxed w2 (w.heap.size+1) 51 v∧LS0 w s q v' (lines ++ [line]) (w2.setCell ⟨w.heap.size+1,0,none⟩ v')∧BS w line (w2.setCell ⟨w.heap.size+1,0,none⟩ v')∧Fr w W (w2.setCell ⟨w.heap.size+1,0,none⟩ v'):=by
 obtain ⟨⟨l1,l2,l3,l4,l5⟩,f1,f2⟩:=builder_step h hb k ko
 obtain ⟨c,hc⟩:=hb1.block
 have hl4:=Boxed.lt l4
 have hne:∀ b,b < w.heap.size+4→some b ≠ v.ownBlock:=fun b hb e=>by have:=(l3.lt b e.symm).1;omega
 have old:∀ j,j < w1.heap.size→some j ≠ v.ownBlock→w2.heap[j]?=w1.heap[j]?:=fun j hj hj2=>by
  rw [hgrow.block j (by simp;omega) hj2,Below.heap_alloc _ _ _ hj]
 have e0:=old w.heap.size (by omega) (hne _ (by omega))
 have e1:=old (w.heap.size+1) (by omega) (hne _ (by omega))
 have e2:=old (w.heap.size+2) (by omega) (hne _ (by omega))
 have e3:=old (w.heap.size+3) (by omega) (hne _ (by omega))
 have sc:∀ j,j ≠ w.heap.size+1→(w2.setCell ⟨w.heap.size+1,0,none⟩ v').heap[j]?=w2.heap[j]?:=fun j hj=>Below.heap_setCell _ _ _ _ (by simpa using hj)
 have hv2:Boxed w2 (w.heap.size+1) 51 v:=Eq.trans e1 l2
 have hB2:Below w.heap.size w w2:=(k_alloc l5 _).grown hgrow (by have:=l5.size;simp;omega) (fun b hb=>by have:=(l3.lt b hb).1;omega)
 have kind:∀ g,v.ownBlock=some g→∃ cc,w1.heap[g]?=some (.cells cc 9 (0,0)):=fun g hg=>by
  rcases l3.2 with ⟨rfl,_⟩ | ⟨g',cap,cur,rfl,_,hgb,_⟩
  ·simp [Value.ownBlock] at hg
  ·obtain rfl:g'=g:=by simpa [Value.ownBlock] using hg
   exact ⟨cur,hgb⟩
 refine ⟨hv2,⟨(sc _ (by omega)).trans (e0.trans l1),hv2.set v',?_,(sc _ (by omega)).trans (e3.trans l4),k_set hB2 (by simp) _⟩,hb1.keep ((sc _ (by omega)).trans e2) (fun g c fz hg hcg=>?_),?_,(sc _ (by omega)).trans e3 |>.trans f2⟩
 ·rw [List.length_append,List.map_append]
  exact ownsRow_setCell_below hown' (by simp) _
 ·have hlt:=(Array.getElem?_eq_some_iff.1 hcg).1
  refine (sc _ (by omega)).trans (old g hlt (fun e=>?_))
  obtain ⟨cc,hcc⟩:=kind g e.symm
  rw [hcg] at hcc
  cases hcc
 ·refine ((f1.trans (KeepsOthers.alloc w1 _)).trans (KeepsOthers.of_grownBy hgrow fun j o ej hj=>?_)).trans (KeepsOthers.setCell _ _ _)
  obtain ⟨cc,hcc⟩:=kind j ej
  rw [Below.heap_alloc _ _ _ (Array.getElem?_eq_some_iff.1 hcc).1,hcc] at hj
  cases hj;rfl
theorem bs_own (w:World) {β:Type} (f:β→ByteArray):Own (fun s W=>BS w (f s) W):=fun s X Y row hs hg hrow=>by
 have keep:∀ (j:Nat) (c:Array Value) (t:TypeId) (fz:Nat × Nat),X.heap[j]?=some (Obj.cells c t fz)→Y.heap[j]?=X.heap[j]?:=fun j c t fz hj=>hg.block j (Array.getElem?_eq_some_iff.1 hj).1 (fun e=>by
  obtain ⟨o,ho,hc⟩:=hrow j e.symm
  rw [hj] at ho;cases ho;cases hc)
 have hs':BS w (f s) X:=hs
 obtain ⟨c,hc⟩:=hs'.block
 exact hs'.keep (keep _ _ _ _ hc) (fun g c fz _ hcg=>keep g c _ fz hcg)
theorem len_any (w:World) (line:ByteArray) (W:World) (h:BS w line W):Calls Tryz.prog 94 #[.pointer (some ⟨w.heap.size+2,0,none⟩)] W fun e w'=>e=.returned (.int .i64 (line.size:Nat))∧w'=W:=by
 have:=Tryz.Builder_Len_f (w.heap.size+2) (w.heap.size+2) (Lib.strCells line) W h
 rw [Lib.strCells_length] at this
 exact this
theorem ofListB (s:ByteArray):(⟨s.data.toList.toArray⟩:ByteArray)=s:=by cases s;simp
theorem string_any (w:World) (line:ByteArray) (W:World) (h:BS w line W) (hz:w.heap.size+2≤W.heap.size):Calls Tryz.prog 65 #[.pointer (some ⟨w.heap.size+2,0,none⟩)] W fun e w'=>e=.returned (.string line)∧BS w line w'∧Below (w.heap.size+2) W w'∧Lib.OthersKept 5 (some (w.heap.size+2)) W w':=by
 have:=Tryz.Builder_String_any_k (w.heap.size+2) (w.heap.size+2) line.data.toList W h hz
 rw [ofListB] at this
 exact this
theorem strCellsB (a b:ByteArray):Lib.strCells (a ++ b)=Lib.strCells a ++ Lib.strCells b:=by
 unfold Lib.strCells
 rw [Joins.data_append,List.map_append]
theorem byte_any (w:World) (line:ByteArray) (W:World) (h:BS w line W) (hl:line.size≤1000) (hz:w.heap.size+2≤W.heap.size):Calls Tryz.prog 63 #[.pointer (some ⟨w.heap.size+2,0,none⟩),.int .u8 32] W fun e w'=>e=.returned .nilIface∧BS w (line ++ ⟨#[32]⟩) w'∧Below (w.heap.size+2) W w'∧Lib.OthersKept 5 (some (w.heap.size+2)) W w' :=
 (writeByte (w.heap.size+2) (w.heap.size+2) (Lib.strCells line) 32 W h (by rw [Lib.strCells_length];omega) hz).mono (fun _ _ ⟨h1,h2,h3,h4⟩=>⟨h1,by show Lib.IsBuilderF _ _ _ _ _ _;rw [strCellsB];exact Or.inr h2,h3,h4⟩)
theorem str_any (w:World) (line x:ByteArray) (W:World) (h:BS w line W) (hl:line.size≤1001) (hx:x.size≤30) (hz:w.heap.size+2≤W.heap.size):Calls Tryz.prog 64 #[.pointer (some ⟨w.heap.size+2,0,none⟩),.string x] W fun e w'=>(∃ v,e=.returned v)∧BS w (line ++ x) w'∧Below (w.heap.size+2) W w'∧Lib.OthersKept 5 (some (w.heap.size+2)) W w' :=
 (writeString (w.heap.size+2) (w.heap.size+2) (Lib.strCells line) x W h (by rw [Lib.strCells_length];omega) hz).mono (fun _ _ ⟨h1,h2,h3,h4⟩=>⟨⟨_,h1⟩,by show Lib.IsBuilderF _ _ _ _ _ _;rw [strCellsB];exact Or.inr h2,h3,h4⟩)
theorem reset_any (w:World) (line:ByteArray) (W:World) (h:BS w line W):Calls Tryz.prog 95 #[.pointer (some ⟨w.heap.size+2,0,none⟩)] W fun e w'=>e=.returned (.tuple #[])∧BS w ⟨#[]⟩ w'∧Below (w.heap.size+2) W w'∧Lib.OthersKept 5 (some (w.heap.size+2)) W w' :=
 resetAny (w.heap.size+2) (w.heap.size+2) (Lib.strCells line) W h
end Go.Proofs.YtcbibdhlkdcmiafGreat
