/-
  PROVED HERE: what the model's TxtWords answers: a text's words, in new memory; nothing that was in memory is turned. Also: what the model's TxtLines answers: a text's lines, in new memory; nothing that was in memory is turned. Also: the words of a text that is ok, put together, are it; each is a text of one word. Also: with more room there are no more lines; with all the room that a text wishes there is one, if it has words; no line is wider than told, but a word. Also: where each cell of a drawn table's grid stands: in its row, behind the one ahead of it, at the first column at which it is free; the grid is ok; it has as many cells as the table. Also: what stays all along a law over a table's grid: the table in its box, the grid in its own, both in memory.
-/
import Derived.Test.YtcbibdhlkdcmiafGreatB8
import Derived.Test.YtcbibdhlkdcmiafGreatB12
import Derived.Test.YtcbibdhlkdcmiafGreatB10
import Derived.Test.YtcbibdhlkdcmiafGreatB24
import Derived.Test.YtcbibdhlkdcmiafGreatB9
import Derived.Test.YtcbibdhlkdcmiafGreatB13
import Derived.Test.YtcbibdhlkdcmiafGreatB26
import Derived.Test.YtcbibdhlkdcmiafGreatB21
import Derived.Laws.AppendOwn
import Derived.Laws.Externs
import Derived.Lib.Walk
import Derived.Lib.Slices
import Derived.Deep.QuietTactic
import Derived.BigQuiet
import Derived.WalkLawsBesides
import Derived.WalkSpells
import Derived.RegionTactic
namespace Go.Proofs.YtcbibdhlkdcmiafGreat
open Go.RowKit

theorem infoSt:(Tryz.prog.info? 9).map (fun i=>(i.zero,i.size,i.bytes))=some (some (Value.string ⟨#[]⟩),1,16):=by kernel_rfl
theorem extract_next {s:ByteArray} {j k:Nat} (hj:j≤k) (hk:k < s.size):s.extract j k ++ ⟨#[s[k]]⟩=s.extract j (k+1):=by
 apply Go.WideShapes.bytes_inj
 rw [Joins.data_append,ByteArray.data_extract,ByteArray.data_extract]
 have hk':k < s.data.size:=hk
 rw [Array.toList_extract,Array.toList_extract]
 have e:s[k]=s.data.toList[k]'(by simpa using hk'):=rfl
 rw [e]
 simp only [List.extract_eq_take_drop]
 rw [show k+1 - j=(k - j)+1 by omega,List.take_succ_eq_append_getElem (by rw [List.length_drop];simp;omega),List.getElem_drop]
 simp [show j+(k - j)=k by omega]

set_option maxRecDepth 100000 in
set_option maxHeartbeats 1000000 in
theorem specCut (s:ByteArray) (hok:txtOkB s=true) (hz:0 < s.size) (w:World) :
  Calls Tryz.prog 136 #[.string s] w fun e w'=>∃ v,e=.returned v∧w'.ownsRow w.heap.size 9 1 v (wordsFrom s 0).length ((wordsFrom s 0).map Value.string)∧Below w.heap.size w w':=by
 obtain ⟨i0,hi,hz0,hz1,hz2⟩:=info_parts infoSt
 have h30:s.size≤30:=((txtOkB_iff s).1 hok).1
 go_enter Tryz.func136,Tryz.ntmps136
 go_wp2_with fail
 go_loopw [3,4,5] (fun o c i W=>∃ (k j:Nat) (out:List ByteArray),k≤s.size∧i=.int .i64 k∧c=.string (s.extract j k)∧j≤k∧j < s.size∧Hid (∀ m,j≤m→m < k→ch s m ≠ 32)∧Hid (Start s j)∧Hid (wordsFrom s 0=out ++ wordsFrom s j)∧Hid (W.ownsRow w.heap.size 9 1 o out.length (out.map Value.string))∧Hid (Below w.heap.size w W)) (fun _ _ i _=>s.size - (intOf i).toNat)
 case atStart=>exact ⟨0,0,[],Nat.zero_le _,rfl,congrArg Value.string (by rw [ByteArray.extract_same];rfl),Nat.le_refl _,hz,fun m h1 h2=>absurd h2 (Nat.not_lt_zero _),start_zero hok,(List.nil_append _).symm,World.ownsRow_made w #[] 0 (Nat.le_refl _) (Nat.zero_le _) rfl,k_alloc (Below.refl _ _) _⟩
 case round =>
  obtain ⟨k,j,out,hk,rfl,rfl,hj,hjk,HN,HS,HO,HR,HB⟩:=hrel
  have hol:out.length≤s.size:=by have:=wordsFrom_len s 0;rw [HO.out] at this;simp at this;omega
  by_cases hlt:k < s.size
  ·have HC:Hid (ch s k=(s[k].toNat:Int)):=ch_at hlt
   by_cases hc:(s[k].toNat:Int)=32
   ·have hc':((s[k].toNat:Int) == 32)=true:=beq_iff_eq.2 hc
    go_wp2_with (at_builtin;refine wpList_append_own _ rfl _ _ 51 rfl w.heap.size 9 i0 (.string ⟨#[]⟩) 1 16 Tryz.underlying51 hi hz0 hz1 hz2 rfl (by decide) _ _ _ rfl (HR.out.alloc _) ⟨wr.heap.size,0,none⟩ 1 1 [.string (s.extract j k)] rfl rfl ?c1 ?c2 ?c3 ?c4 ?c5 ?_)
    case c1 =>
     intro i u hi
     match i,hi with
     | 0,hi=>simp at hi;subst hi;simp [Addr.add]
    case c2=>intro u hu;simp at hu;subst hu;rfl
    case c3=>unfold maxLen;omega
    case c4=>omega
    case c5=>have:=HB.out.size;simp;omega
    intro v' w2 hown' hgrow' _
    have HB2:=Hid.intro ((k_alloc HB.out (.cells #[.string (s.extract j k)] 9)).grown hgrow' (by have:=HB.out.size;simp;omega) (fun b hb=>(HR.out.lt b hb).1))
    have HE:Hid (wend s j=k):=wend_of HN.out hj (Nat.le_of_lt hlt) (fun _=>HC.out.trans hc)
    have hk1:k+1 < s.size:=by
     have hg:=((txtOkB_iff s).1 hok).2 k hlt
     simp [goodB,HC.out.trans hc] at hg
     omega
    have HW2:Hid (wordsFrom s 0=(out ++ [s.extract j k]) ++ wordsFrom s (k+1)):=by
     show _=_
     rw [HO.out,wordsFrom_go hjk,HE.out];simp
    have HS2:Hid (Start s (k+1)):=by
     have:=(start_next hok hjk HS.out).2.2.1
     rw [HE.out] at this
     exact this
    have HR2:=Hid.intro hown'
    obtain ⟨g',cap',rfl⟩:=Joins.ownsRow_form hown' (by omega)
    clear hown' hgrow' HR HB
    go_wp2
    go_roundw
    case rel=>exact ⟨k+1,k+1,out ++ [s.extract j k],by omega,by go_num,congrArg Value.string (by rw [ByteArray.extract_same];rfl),Nat.le_refl _,hk1,fun m h1 h2=>absurd h2 (by omega),HS2,HW2,by rw [List.length_append,List.map_append];exact HR2,HB2⟩
    case measure=>simp [intOf];omega
   ·have hc':((s[k].toNat:Int) == 32)=false:=beq_eq_false_iff_ne.2 hc
    have hcv:(convert 22 9 (.slice (some ⟨wr.heap.size,0,none⟩) 1 1)).run Tryz.prog (wr.alloc (.cells #[.int .u8 (s[k].toNat:Int)] 5))=.ok (.string ⟨#[s[k]]⟩) (wr.alloc (.cells #[.int .u8 (s[k].toNat:Int)] 5)) :=
     run_convert_bytes_back _ _ _ 5 ⟨wr.heap.size,0,none⟩ 1 [s[k]] Tryz.underlying22 Tryz.underlying5 Tryz.underlying9 (fun i hi=>by
      match i,hi with
      | 0,_=>simp [Addr.add])
    have hz1:¬ 9223372036854775807 < (s.extract j k).size+1:=by rw [ByteArray.size_extract];omega
    have HX:=Hid.intro (extract_next hj hlt)
    have hc2:ch s k ≠ 32:=fun h=>hc (HC.out.symm.trans h)
    have HN2:Hid (∀ m,j≤m→m < k+1→ch s m ≠ 32):=fun m h1 h2=>by
     rcases Nat.lt_or_eq_of_le (Nat.lt_succ_iff.1 h2) with h3 | rfl
     ·exact HN.out m h1 h3
     ·exact hc2
    go_wp2
    go_roundw
    case rel=>exact ⟨k+1,j,out,by omega,by go_num,congrArg Value.string HX.out,by omega,hjk,HN2,HS,HO,HR.out.alloc _,k_alloc HB.out _⟩
    case measure=>simp [intOf];omega
  ·obtain rfl:k=s.size:=by omega
   have HE:Hid (wend s j=s.size):=wend_of HN.out hj (Nat.le_refl _) (fun h=>absurd h (Nat.lt_irrefl _))
   have HW2:Hid (wordsFrom s 0=out ++ [s.extract j s.size]):=by
    show _=_
    rw [HO.out,wordsFrom_go hjk,HE.out,wordsFrom_end (by omega)]
   go_wp2_with (at_builtin;refine wpList_append_own _ rfl _ _ 51 rfl w.heap.size 9 i0 (.string ⟨#[]⟩) 1 16 Tryz.underlying51 hi hz0 hz1 hz2 rfl (by decide) _ _ _ rfl (HR.out.alloc _) ⟨wr.heap.size,0,none⟩ 1 1 [.string (s.extract j s.size)] rfl rfl ?c1 ?c2 ?c3 ?c4 ?c5 ?_)
   case c1 =>
    intro i u hi
    match i,hi with
    | 0,hi=>simp at hi;subst hi;simp [Addr.add]
   case c2=>intro u hu;simp at hu;subst hu;rfl
   case c3=>unfold maxLen;omega
   case c4=>omega
   case c5=>have:=HB.out.size;simp;omega
   intro v' w2 hown' hgrow' _
   have HB2:=Hid.intro ((k_alloc HB.out (.cells #[.string (s.extract j s.size)] 9)).grown hgrow' (by have:=HB.out.size;simp;omega) (fun b hb=>(HR.out.lt b hb).1))
   have HR2:=Hid.intro hown'
   obtain ⟨g',cap',rfl⟩:=Joins.ownsRow_form hown' (by omega)
   clear hown' hgrow' HR HB
   go_wp2
   go_ret
   exact ⟨_,rfl,by rw [HW2.out,List.length_append,List.map_append];exact HR2.out,HB2.out⟩

/-- a list of words that lies in memory, as the model's functions read it -/
theorem words_get {w:World} {B:Nat} {v:Value} {l:List ByteArray} (h:w.ownsRow B 9 1 v l.length (l.map Value.string)) {i:Nat} (hi:i < l.length) :
  ∃ g cap,v=.slice (some ⟨g,0,none⟩) l.length cap∧l.length≤cap∧cap≤maxLen∧w.cell? ⟨g,i,none⟩=some (.string l[i]):=by
 rcases h.2 with ⟨_,h0⟩ | ⟨g,cap,cur,hv,_,hg,h1,h2,h3,h4⟩
 ·omega
 ·refine ⟨g,cap,hv,h1,h2,?_⟩
  rw [cellB hg]
  have:cur.toList[i]?=(l.map Value.string)[i]?:=by rw [← h4,List.getElem?_take_of_lt (by omega)]
  rw [← Array.getElem?_toList,this]
  simp [hi]

set_option maxRecDepth 100000 in
set_option maxHeartbeats 1000000 in
theorem specTxtWords (s:ByteArray) (hs:s.size≤maxLen) (w:World) :
  Calls Tryz.prog 122 #[.string s] w fun e w'=>∃ v,e=.returned v∧w'.ownsRow w.heap.size 9 1 v (wordsW s).length ((wordsW s).map (fun x=>Value.string x.1))∧Below w.heap.size w w':=by
 by_cases hz:s.size=0
 ·have hw0:wordsW s=[]:=by
   rw [wordsW]
   split
   ·rw [wordsFrom_end (by omega)];rfl
   ·rfl
  have hnil:=toList_nil hz
  have HW:=Hid.intro hw0
  clear hw0
  go_enter Tryz.func122,Tryz.ntmps122
  go_wp2
  all_goals
   go_ret
   exact ⟨_,rfl,by rw [HW.out];exact World.ownsRow_made w #[] 0 (Nat.le_refl _) (Nat.zero_le _) rfl,k_alloc (Below.refl _ _) _⟩
 ·have he:¬ s.toList=[]:=fun h=>hz (size_nil h)
  have he':s.toList.isEmpty=false:=by simpa using he
  cases hok:txtOkB s with
  | false =>
   have hw0:wordsW s=[]:=by rw [wordsW,if_neg (by rw [hok];simp)]
   go_enter Tryz.func122,Tryz.ntmps122
   have HW:=Hid.intro hw0
   clear hw0
   go_wp2_with (go_at_call 87;refine (specTxtOk s w hs).mono ?_;rintro e w' ⟨rfl,rfl⟩;rw [hok])
   go_ret
   exact ⟨_,rfl,by rw [HW.out];exact World.ownsRow_made w' #[] 0 (Nat.le_refl _) (Nat.zero_le _) rfl,k_alloc (Below.refl _ _) _⟩
  | true =>
   have hp:0 < s.size:=by omega
   go_enter Tryz.func122,Tryz.ntmps122
   go_wp2_with (first
    | (go_at_call 87;refine (specTxtOk s _ hs).mono ?_;rintro e w' ⟨rfl,rfl⟩;rw [hok])
    | (go_at_call 136;refine (specCut s hok hp _).mono ?_;rintro e w' ⟨v,rfl,hv,hb⟩))
   go_ret
   exact ⟨_,rfl,by rw [words_len hok,words_map hok];exact hv,hb⟩
/-- words that lie in memory, read at a place -/
theorem wordsAt {w:World} {B:Nat} {v:Value} {l:List W30} (h:w.ownsRow B 9 1 v l.length (l.map (fun x=>Value.string x.1))) {i:Nat} (hi:i < l.length) :
  ∃ g cap,v=.slice (some ⟨g,0,none⟩) l.length cap∧l.length≤cap∧cap≤maxLen∧w.cell? ⟨g,i,none⟩=some (.string l[i].1):=by
 have e:l.map (fun x=>Value.string x.1)=(l.map (fun x=>x.1)).map Value.string:=by rw [List.map_map];rfl
 have el:l.length=(l.map (fun x:W30=>x.1)).length:=(List.length_map ..).symm
 rw [e,el] at h
 obtain ⟨g,cap,h1,h2,h3,h4⟩:=words_get h (i:=i) (by rw [List.length_map];exact hi)
 refine ⟨g,cap,by rw [el];exact h1,by rw [el];exact h2,h3,?_⟩
 rw [h4];simp
theorem words_form {w:World} {B:Nat} {v:Value} {l:List W30} (h:w.ownsRow B 9 1 v l.length (l.map (fun x=>Value.string x.1))):∃ a cap,v=.slice a l.length cap:=by
 rcases h.2 with ⟨hv,h0⟩ | ⟨g,cap,cur,hv,_⟩
 ·exact ⟨none,0,by rw [h0];exact hv⟩
 ·exact ⟨_,_,hv⟩
end Go.Proofs.YtcbibdhlkdcmiafGreat
namespace Go.Proofs.YtcbibdhlkdcmiafGreat
open Go.RowKit

theorem infoLs:(Tryz.prog.info? 9).map (fun i=>(i.zero,i.size,i.bytes))=some (some (Value.string ⟨#[]⟩),1,16):=by kernel_rfl
/-- where no line is being built there is none -/
def LnOk (st:List ByteArray × ByteArray):Prop:=st.2.size=0→st.1=[]
theorem lnOk_step (q:Int) (st:List ByteArray × ByteArray) (x:W30):LnOk (stepLn q st x.1):=by
 have hx:=x.2.1
 intro h0
 unfold stepLn at h0 ⊢
 by_cases h1:0 < st.2.size
 ·by_cases h2:q < (st.2.size:Int)+1+x.1.size
  ·rw [if_pos h1,if_pos h2] at h0;dsimp only at h0;omega
  ·rw [if_pos h1,if_neg h2] at h0;dsimp only at h0;rw [ByteArray.size_append] at h0;omega
 ·rw [if_neg h1] at h0;dsimp only at h0;omega
theorem lnOk_all (q:Int) (ws:List W30):LnOk (lnSt q ws):=by
 suffices h:∀ (l:List W30) (st:List ByteArray × ByteArray),LnOk st→LnOk (l.foldl (fun st x=>stepLn q st x.1) st) from h ws _ (fun _=>rfl)
 intro l
 induction l with
 | nil=>intro st h;exact h
 | cons x r ih=>intro st _;exact ih _ (lnOk_step q st x)
/-- the last line -/
def lastLn (l:List ByteArray):ByteArray:=l.getD (l.length - 1) eS
theorem out_nil {q:Int} {st:List ByteArray × ByteArray} (hok:LnOk st) (h:(lnOut st).length=0) (x:W30):lnOut (stepLn q st x.1)=lnOut st ++ [x.1]:=by
 obtain ⟨lines,line⟩:=st
 have h0:¬ 0 < line.size:=fun h0=>by simp [lnOut,h0] at h
 have hl:lines=[]:=hok (show line.size=0 by omega)
 subst hl
 have hx:=x.2.1
 simp [stepLn,lnOut,h0,hx]
theorem out_line {st:List ByteArray × ByteArray} (h:(lnOut st).length ≠ 0) (hok:LnOk st):0 < st.2.size∧lnOut st=st.1 ++ [st.2]∧lastLn (lnOut st)=st.2:=by
 obtain ⟨lines,line⟩:=st
 have h0:0 < line.size:=by
  rcases Nat.eq_zero_or_pos line.size with h0 | h0
  ·have hl:lines=[]:=hok h0
   subst hl
   simp [lnOut,h0] at h
  ·exact h0
 have e:lnOut (lines,line)=lines ++ [line]:=by simp [lnOut,h0]
 refine ⟨h0,e,?_⟩
 rw [e]
 simp [lastLn,List.getD]
theorem out_break {q:Int} {st:List ByteArray × ByteArray} (hok:LnOk st) (h:(lnOut st).length ≠ 0) (x:W30) (hq:q < ((lastLn (lnOut st)).size:Int)+1+x.1.size):lnOut (stepLn q st x.1)=lnOut st ++ [x.1]:=by
 obtain ⟨h1,h2,h3⟩:=out_line h hok
 rw [h3] at hq
 have hx:=x.2.1
 have e:stepLn q st x.1=(st.1 ++ [st.2],x.1):=by unfold stepLn;rw [if_pos h1,if_pos hq]
 rw [e,h2]
 simp [lnOut,hx]
theorem out_fits {q:Int} {st:List ByteArray × ByteArray} (hok:LnOk st) (h:(lnOut st).length ≠ 0) (x:W30) (hq:¬ q < ((lastLn (lnOut st)).size:Int)+1+x.1.size):lnOut (stepLn q st x.1)=(lnOut st).set ((lnOut st).length - 1) (lastLn (lnOut st) ++ ⟨#[32]⟩ ++ x.1):=by
 obtain ⟨h1,h2,h3⟩:=out_line h hok
 rw [h3] at hq ⊢
 have hx:=x.2.1
 have e:stepLn q st x.1=(st.1,st.2 ++ ⟨#[32]⟩ ++ x.1):=by unfold stepLn;rw [if_pos h1,if_neg hq]
 have hp:0 < (st.2 ++ ⟨#[32]⟩ ++ x.1).size:=by rw [ByteArray.size_append];omega
 rw [e,h2]
 simp only [lnOut,hp,if_true,List.length_append,List.length_cons,List.length_nil,Nat.add_sub_cancel,Nat.zero_add]
 rw [List.set_append_right _ _ (Nat.le_refl _)]
 simp
theorem out_bound (q:Int) (ws:List W30):(lnOut (lnSt q ws)).length≤ws.length+1∧(lastLn (lnOut (lnSt q ws))).size≤31 * ws.length:=by
 obtain ⟨h1,h2⟩:=lnSt_bound q ws
 constructor
 ·unfold lnOut
  split
  ·simp;omega
  ·omega
 ·rcases Nat.eq_zero_or_pos (lnOut (lnSt q ws)).length with h | h
  ·have:lnOut (lnSt q ws)=[]:=List.eq_nil_of_length_eq_zero h
   rw [this]
   simp [lastLn,eS]
  ·rw [(out_line (by omega) (lnOk_all q ws)).2.2];exact h2
theorem lnSt_take {q:Int} {l:List W30} {k:Nat} (h:k < l.length):lnSt q (l.take (k+1))=stepLn q (lnSt q (l.take k)) l[k].1:=by
 rw [List.take_succ_eq_append_getElem h,lnSt_snoc]
theorem row_owns {w:World} {B:Nat} {v:Value} {l:List ByteArray} (h:RowS w B v l):w.ownsRow B 9 1 v l.length (l.map Value.string):=by
 refine ⟨by simp,?_⟩
 rcases h with ⟨hv,rfl⟩ | ⟨g,cap,cur,hv,hb,hg,h1,h2,h3,h4⟩
 ·exact Or.inl ⟨hv,rfl⟩
 ·refine Or.inr ⟨g,cap,cur,hv,hb,hg,h1,h2,by omega,?_⟩
  apply List.ext_getElem?
  intro i
  rw [Nat.mul_one]
  by_cases hi:i < l.length
  ·rw [List.getElem?_take_of_lt hi,Array.getElem?_toList,h4 i hi]
   simp [List.getD,hi]
  ·rw [List.getElem?_eq_none (by simp;omega),List.getElem?_eq_none (by simp;omega)]

set_option maxRecDepth 100000 in
set_option maxHeartbeats 2000000 in
theorem specTxtLines (s:ByteArray) (hs:s.size≤maxLen) (q:Int) (hq:-9223372036854775808≤q∧q≤9223372036854775807) (w:World) :
  Calls Tryz.prog 97 #[.string s,.int .i64 q] w fun e w'=>∃ v,e=.returned v∧RowS w' w.heap.size v (lnOut (lnSt q (wordsW s)))∧Below w.heap.size w w':=by
 obtain ⟨i0,hi,hz0,hz1,hz2⟩:=info_parts infoLs
 have hwl:=wordsW_len s
 have HW:=Hid.intro (specTxtWords s hs)
 generalize wordsW s=l at HW hwl ⊢
 go_enter Tryz.func97,Tryz.ntmps97
 go_wp2_with fail
 refine (HW.out _).mono ?_
 rintro e w1 ⟨v1,rfl,hv1,hb1⟩
 have V1:=Hid.intro hv1
 have K1:=Hid.intro hb1
 obtain ⟨a1,c1,rfl⟩:=words_form hv1
 have hsz1:=hb1.size
 clear hv1 hb1
 go_wp2_with fail
 go_loopw [6,7] (fun o i W=>∃ k:Nat,k≤l.length∧i=.int .i64 k∧Hid (RowS W w1.heap.size o (lnOut (lnSt q (l.take k))))∧Hid (Below w1.heap.size w1 W)) (fun _ i _=>l.length - (intOf i).toNat)
 case atStart=>exact ⟨0,Nat.zero_le _,rfl,RowS.of_owns (World.ownsRow_made w1 #[] 0 (Nat.le_refl _) (Nat.zero_le _) rfl),k_alloc (Below.refl _ _) _⟩
 case round =>
  obtain ⟨k,hk,rfl,HR,HB⟩:=hrel
  by_cases hlt:k < l.length
  ·obtain ⟨g,cap',e',h1,h2,hx⟩:=wordsAt (ownsRow_keptS V1.out HB.out) hlt
   simp only [Value.slice.injEq,true_and] at e'
   obtain ⟨rfl,rfl⟩:=e'
   have h3:=l[k].2
   have HT:=Hid.intro (lnSt_take (q:=q) hlt)
   obtain ⟨hb1,hb2⟩:=out_bound q (l.take k)
   have hok:=Hid.intro (lnOk_all q (l.take k))
   have htl:(l.take k).length≤30:=by rw [List.length_take];omega
   have HN:=Hid.intro (fun h=>out_nil (q:=q) hok.out h l[k])
   have HK:=Hid.intro (fun h=>out_break (q:=q) hok.out h l[k])
   have HF:=Hid.intro (fun h=>out_fits (q:=q) hok.out h l[k])
   rw [← HT.out] at HN HK HF
   generalize l[k]=x at hx h3 HN HK HF
   generalize hout:lnOut (lnSt q (l.take k))=out at HR HN HK HF hb1 hb2
   clear hout HT hok
   obtain ⟨ao,co,rfl⟩:=HR.out.form
   unfold maxLen at h2
   have hbs:=HB.out.size
   by_cases hn0:out.length=0
   ·have hd:decide ((0:Int) < (out.length:Int))=false:=decide_eq_false (by omega)
    have HE:=Hid.intro (HN.out hn0)
    obtain rfl:out=[]:=List.eq_nil_of_length_eq_zero hn0
    clear hn0 hd HK HF HN
    have hd:decide ((0:Int) < (0:Int))=false:=rfl
    go_wp2_with fail
    go_quiet (fail)
    have hO:(wr.drewN nq).ownsRow w1.heap.size 9 1 (.slice ao 0 co) 0 []:=row_owns HR.out
    go_wp2_with (at_builtin;refine wpList_append_own _ rfl _ _ 51 rfl w1.heap.size 9 i0 (.string ⟨#[]⟩) 1 16 Tryz.underlying51 hi hz0 hz1 hz2 rfl (by decide) _ _ _ rfl (hO.alloc _) ⟨wr.heap.size,0,none⟩ 1 1 [.string x.1] rfl rfl ?c1 ?c2 ?c3 ?c4 ?c5 ?_)
    case c1=>exact cell_one_new (wr.drewN nq) (.string x.1) 9
    case c2=>intro u hu;simp at hu;subst hu;rfl
    case c3=>unfold maxLen;omega
    case c4=>omega
    case c5=>simp;omega
    intro v' w2 hown' hgrow' _
    have HB2:=Hid.intro ((k_alloc (k_drewN HB.out nq) (.cells #[.string x.1] 9)).grown hgrow' (by simp;omega) (fun b hb=>(hO.lt b hb).1))
    have HR2:Hid (RowS w2 w1.heap.size v' (lnOut (lnSt q (l.take (k+1))))):=by
     show RowS _ _ _ _
     rw [HE.out]
     exact RowS.of_owns hown'
    obtain ⟨g',cap',rfl⟩:=Joins.ownsRow_form hown' (by omega)
    clear hown' hgrow' hO HR HB
    go_wp2
    go_roundw
    case rel=>exact ⟨k+1,by omega,by go_num,HR2,HB2⟩
    case measure=>simp [intOf];omega
   ·obtain ⟨m,hm⟩:=Nat.exists_eq_succ_of_ne_zero hn0
    obtain ⟨go,co',e',hgo,hgs,hc1,hc2,hy,hfy⟩:=HR.out.get (i:=out.length - 1) (by omega)
    simp only [Value.slice.injEq,true_and] at e'
    obtain ⟨rfl,rfl⟩:=e'
    have hyl:out.getD (out.length - 1) eS=lastLn out:=rfl
    rw [hyl] at hy
    have hm1:out.length - 1=m:=by omega
    have hm2:out.length=m+1:=hm
    have HR0:=Hid.intro (row_owns HR.out)
    have HRs:=Hid.intro (fun y=>HR.out.set (i:=out.length - 1) (by omega) y)
    have HKo:=Hid.intro (HK.out hn0)
    have HFo:=Hid.intro (HF.out hn0)
    generalize lastLn out=y at hy hb2 HKo HFo
    rw [hm1] at hy hfy HRs HFo
    rw [hm2] at hc1 HR0 HRs
    rw [hm2]
    unfold maxLen at hc2
    have hd:decide ((0:Int) < ((m:Int)+1))=true:=decide_eq_true (by omega)
    by_cases hqq:q < (y.size:Int)+1+x.1.size
    ·have hdq:decide ((y.size:Int)+1+(x.1.size:Int)≤q)=false:=decide_eq_false (by omega)
     have HE:=Hid.intro (HKo.out hqq)
     go_wp2_with fail
     go_quiet (fail)
     have hO:(wr.drewN nq).ownsRow w1.heap.size 9 1 (.slice (some ⟨go,0,none⟩) (m+1) co) (m+1) (out.map Value.string):=HR0.out
     go_wp2_with (at_builtin;refine wpList_append_own _ rfl _ _ 51 rfl w1.heap.size 9 i0 (.string ⟨#[]⟩) 1 16 Tryz.underlying51 hi hz0 hz1 hz2 rfl (by decide) _ _ _ rfl (hO.alloc _) ⟨wr.heap.size,0,none⟩ 1 1 [.string x.1] rfl rfl ?c1 ?c2 ?c3 ?c4 ?c5 ?_)
     case c1=>exact cell_one_new (wr.drewN nq) (.string x.1) 9
     case c2=>intro u hu;simp at hu;subst hu;rfl
     case c3=>unfold maxLen;omega
     case c4=>omega
     case c5=>simp;omega
     intro v' w2 hown' hgrow' _
     have HB2:=Hid.intro ((k_alloc (k_drewN HB.out nq) (.cells #[.string x.1] 9)).grown hgrow' (by simp;omega) (fun b hb=>(hO.lt b hb).1))
     have HR2:Hid (RowS w2 w1.heap.size v' (lnOut (lnSt q (l.take (k+1))))):=by
      show RowS _ _ _ _
      rw [HE.out]
      exact RowS.of_owns (by rw [List.length_append,List.map_append,hm2];exact hown')
     obtain ⟨g',cap',rfl⟩:=Joins.ownsRow_form hown' (by omega)
     clear hown' hgrow' hO HR HB
     go_wp2
     go_roundw
     case rel=>exact ⟨k+1,by omega,by go_num,HR2,HB2⟩
     case measure=>simp [intOf];omega
    ·have hdq:decide ((y.size:Int)+1+(x.1.size:Int)≤q)=true:=decide_eq_true (by omega)
     have HE:=Hid.intro (HFo.out hqq)
     have hz3:¬ 9223372036854775807 < y.size+1:=by omega
     have hz4:¬ 9223372036854775807 < y.size+1+x.1.size:=by omega
     go_wp2_with fail
     go_quiet (fail)
     go_wp2_with fail
     have hy':(wr.drewN nq).cell? ⟨go,m,none⟩=some (.string y):=hy
     have hx':(wr.drewN nq).cell? ⟨g,k,none⟩=some (.string x.1):=hx
     have hf':(wr.drewN nq).frozen? ⟨go,m,none⟩=false:=hfy
     have HB1:=Hid.intro (k_drewN HB.out nq)
     have HR1:Hid (∀ y,RowS ((wr.drewN nq).setCell ⟨go,m,none⟩ (.string y)) w1.heap.size (.slice (some ⟨go,0,none⟩) (m+1) co) (out.set m y)):=HRs
     clear hy hx hfy HR HRs HR0 HN HK HF HKo HFo HB
     generalize wr.drewN nq=W1 at hy' hx' hf' HB1 HR1 ⊢
     go_region
     all_goals
      go_wp2
      go_roundw
      case rel=>exact ⟨k+1,by omega,by go_num,by rw [HE.out];exact HR1.out _,Below.drew ((HB1.out).setCell (p:=⟨go,m,none⟩) hgo _)⟩
      case measure=>simp [intOf];omega
  ·obtain rfl:k=l.length:=by omega
   rw [List.take_length] at HR
   obtain ⟨ao,co,rfl⟩:=HR.out.form
   go_wp2
   go_ret
   exact ⟨_,rfl,HR.out.base hsz1,k_trans K1.out HB.out⟩
end Go.Proofs.YtcbibdhlkdcmiafGreat
namespace Go.Proofs.YtcbibdhlkdcmiafGreat
open Go.RowKit

/-- texts with one blank between any two, from the right -/
def joinL:List ByteArray→ByteArray
 | []=>⟨#[]⟩
 | [x]=>x
 | x :: y :: r=>x ++ ⟨#[32]⟩ ++ joinL (y :: r)
theorem app_assoc (a b c:ByteArray):a ++ b ++ c=a ++ (b ++ c):=Go.WideShapes.bytes_inj (by simp)
theorem joinL_snoc:∀ (l:List ByteArray) (x:ByteArray),l ≠ []→joinL (l ++ [x])=joinL l ++ ⟨#[32]⟩ ++ x
 | [],_,h=>absurd rfl h
 | [_],_,_=>rfl
 | y :: z :: r,x,_=>by
  have ih:=joinL_snoc (z :: r) x (by simp)
  simp only [List.cons_append,joinL] at ih ⊢
  rw [ih]
  simp only [app_assoc]
theorem joinTo_take (ss:List ByteArray):∀ k,k≤ss.length→joinTo ss k=joinL (ss.take k)
 | 0,_=>by simp [joinTo,joinL]
 | k+1,h=>by
  have ih:=joinTo_take ss k (by omega)
  have hk:k < ss.length:=h
  rw [joinTo,List.take_succ_eq_append_getElem hk]
  have e:ss.getD k dS=ss[k]:=by simp [List.getD,hk]
  split
  ·rename_i h0
   subst h0
   simp [joinL,List.getD,hk]
  ·rename_i h0
   rw [ih,e,joinL_snoc _ _ (by intro hn;have h5:=congrArg List.length hn;rw [List.length_take,List.length_nil] at h5;omega)]
theorem extract_join {s:ByteArray} {i e:Nat} (h1:i≤e) (h2:e≤s.size):s.extract i e ++ s.extract e s.size=s.extract i s.size:=by
 exact (ByteArray.extract_eq_extract_append_extract e h1 h2).symm
theorem join_from {s:ByteArray} (hok:txtOkB s=true) (i:Nat) (hi:i < s.size) (hs:Start s i):joinL (wordsFrom s i)=s.extract i s.size:=by
 obtain ⟨h1,h2,h3,_⟩:=start_next hok hi hs
 obtain ⟨_,_,_,h4⟩:=wend_spec s i (by omega)
 rw [wordsFrom_go hi]
 by_cases he:wend s i < s.size
 ·have hb:=h4 he
  have hne:wend s i+1 < s.size:=by
   have hg:=((txtOkB_iff s).1 hok).2 _ he
   simp [goodB,hb] at hg
   omega
  have ih:=join_from hok (wend s i+1) hne h3
  rw [wordsFrom_go hne] at ih ⊢
  rw [joinL,ih]
  have hc:s[wend s i]=32:=by
   rw [ch_at he] at hb
   apply UInt8.toNat_inj.1
   have:s[wend s i].toNat=32:=by omega
   rw [this];rfl
  have e1:=extract_next (s:=s) (j:=i) (k:=wend s i) (by omega) he
  rw [hc] at e1
  rw [e1,extract_join (by omega) (by omega)]
 ·have e:wend s i=s.size:=by omega
  rw [wordsFrom_end (by omega),joinL,e]
termination_by s.size - i
theorem empty_of {s:ByteArray} (h:s.size=0):(⟨#[]⟩:ByteArray)=s:=Go.WideShapes.bytes_inj (by
 have:s.data.size=0:=h
 simp [Array.eq_empty_of_size_eq_zero this])
theorem extract_all (s:ByteArray):s.extract 0 s.size=s:=ByteArray.extract_zero_size
/-- the words of a text that is ok, put together, are it -/
theorem join_words {s:ByteArray} (hok:txtOkB s=true):joinTo ((wordsW s).map (fun x=>x.1)) ((wordsW s).map (fun x=>x.1)).length=s:=by
 rw [words_val hok,joinTo_take _ _ (Nat.le_refl _),List.take_length]
 by_cases h:0 < s.size
 ·rw [join_from hok 0 h (start_zero hok),extract_all]
 ·rw [wordsFrom_end h,joinL];exact empty_of (by omega)
end Go.Proofs.YtcbibdhlkdcmiafGreat
namespace Go.Proofs.YtcbibdhlkdcmiafGreat
open Go.RowKit

/-- how many lines, and how long the last one is: no more, in this order -/
def LeLn (a b:List ByteArray × ByteArray):Prop:=(lnOut a).length < (lnOut b).length∨(lnOut a).length=(lnOut b).length∧a.2.size≤b.2.size
theorem cnt_nil {q:Int} {st:List ByteArray × ByteArray} (h:¬ 0 < st.2.size) (x:W30):(lnOut (stepLn q st x.1)).length=(lnOut st).length+1∧(stepLn q st x.1).2.size=x.1.size:=by
 have hx:=x.2.1
 have e:stepLn q st x.1=(st.1,x.1):=by unfold stepLn;rw [if_neg h]
 rw [e]
 simp [lnOut,h,hx]
theorem cnt_break {q:Int} {st:List ByteArray × ByteArray} (h:0 < st.2.size) (x:W30) (hq:q < (st.2.size:Int)+1+x.1.size):(lnOut (stepLn q st x.1)).length=(lnOut st).length+1∧(stepLn q st x.1).2.size=x.1.size:=by
 have hx:=x.2.1
 have e:stepLn q st x.1=(st.1 ++ [st.2],x.1):=by unfold stepLn;rw [if_pos h,if_pos hq]
 rw [e]
 simp [lnOut,h,hx]
theorem cnt_fits {q:Int} {st:List ByteArray × ByteArray} (h:0 < st.2.size) (x:W30) (hq:¬ q < (st.2.size:Int)+1+x.1.size):(lnOut (stepLn q st x.1)).length=(lnOut st).length∧(stepLn q st x.1).2.size=st.2.size+1+x.1.size:=by
 have e:stepLn q st x.1=(st.1,st.2 ++ ⟨#[32]⟩ ++ x.1):=by unfold stepLn;rw [if_pos h,if_neg hq]
 have hz:(st.2 ++ ⟨#[32]⟩ ++ x.1).size=st.2.size+1+x.1.size:=by rw [ByteArray.size_append,ByteArray.size_append];rfl
 rw [e]
 refine ⟨?_,hz⟩
 have hp:0 < (st.2 ++ ⟨#[32]⟩ ++ x.1).size:=by omega
 simp only [lnOut,hp,h,if_true,List.length_append,List.length_cons,List.length_nil]
/-- a line is being built just where there are lines -/
theorem cnt_zero {st:List ByteArray × ByteArray} (hok:LnOk st):(¬ 0 < st.2.size→(lnOut st).length=0)∧(0 < st.2.size→0 < (lnOut st).length):=by
 refine ⟨fun h=>?_,fun h=>?_⟩
 ·have:st.1=[]:=hok (by omega)
  simp [lnOut,h,this]
 ·simp [lnOut,h]
theorem wider_step {p q:Int} (hpq:p≤q) {a b:List ByteArray × ByteArray} (ha:LnOk a) (hb:LnOk b) (h:LeLn a b) (x:W30):LeLn (stepLn q a x.1) (stepLn p b x.1):=by
 have hx:=x.2.1
 obtain ⟨za,za'⟩:=cnt_zero ha
 obtain ⟨zb,zb'⟩:=cnt_zero hb
 unfold LeLn at h ⊢
 by_cases h1:0 < a.2.size
 ·have c1:=za' h1
  have h2:0 < b.2.size:=by
   by_cases h2:0 < b.2.size
   ·exact h2
   ·have:=zb h2;omega
  by_cases qa:q < (a.2.size:Int)+1+x.1.size
  ·obtain ⟨e1,e2⟩:=cnt_break h1 x qa
   by_cases qb:p < (b.2.size:Int)+1+x.1.size
   ·obtain ⟨e3,e4⟩:=cnt_break h2 x qb;omega
   ·obtain ⟨e3,e4⟩:=cnt_fits h2 x qb;omega
  ·obtain ⟨e1,e2⟩:=cnt_fits h1 x qa
   by_cases qb:p < (b.2.size:Int)+1+x.1.size
   ·obtain ⟨e3,e4⟩:=cnt_break h2 x qb;omega
   ·obtain ⟨e3,e4⟩:=cnt_fits h2 x qb;omega
 ·have c1:=za h1
  obtain ⟨e1,e2⟩:=cnt_nil (q:=q) h1 x
  by_cases h2:0 < b.2.size
  ·have:=zb' h2
   by_cases qb:p < (b.2.size:Int)+1+x.1.size
   ·obtain ⟨e3,e4⟩:=cnt_break h2 x qb;omega
   ·obtain ⟨e3,e4⟩:=cnt_fits h2 x qb;omega
  ·obtain ⟨e3,e4⟩:=cnt_nil (q:=p) h2 x
   have:=zb h2
   omega
theorem wider {p q:Int} (hpq:p≤q) (ws:List W30):(lnOut (lnSt q ws)).length≤(lnOut (lnSt p ws)).length:=by
 suffices h:∀ (l:List W30) (a b:List ByteArray × ByteArray),LnOk a→LnOk b→LeLn a b→LeLn (l.foldl (fun st x=>stepLn q st x.1) a) (l.foldl (fun st x=>stepLn p st x.1) b) by
  have:=h ws ([],⟨#[]⟩) ([],⟨#[]⟩) (fun _=>rfl) (fun _=>rfl) (Or.inr ⟨rfl,Nat.le_refl _⟩)
  unfold LeLn at this
  have e1:lnSt q ws=ws.foldl (fun st x=>stepLn q st x.1) ([],⟨#[]⟩):=rfl
  have e2:lnSt p ws=ws.foldl (fun st x=>stepLn p st x.1) ([],⟨#[]⟩):=rfl
  rw [e1,e2]
  omega
 intro l
 induction l with
 | nil=>intro a b _ _ h;exact h
 | cons x r ih=>intro a b ha hb h;exact ih _ _ (lnOk_step q a x) (lnOk_step p b x) (wider_step hpq ha hb h x)
/-- no line is wider than told, but a word -/
theorem line_le {q:Int} {n:Nat} (hq:q≤(n:Int)) (ws:List W30) (hw:∀ x ∈ ws,x.1.size≤n):∀ y ∈ lnOut (lnSt q ws),y.size≤n:=by
 suffices h:∀ (l:List W30) (st:List ByteArray × ByteArray),(∀ x ∈ l,x.1.size≤n)→(∀ y ∈ st.1,y.size≤n)→st.2.size≤n→(∀ y ∈ (l.foldl (fun st x=>stepLn q st x.1) st).1,y.size≤n)∧(l.foldl (fun st x=>stepLn q st x.1) st).2.size≤n by
  obtain ⟨h1,h2⟩:=h ws ([],⟨#[]⟩) hw (fun y hy=>by cases hy) (Nat.zero_le _)
  intro y hy
  unfold lnOut at hy
  split at hy
  ·rcases List.mem_append.1 hy with hy | hy
   ·exact h1 y hy
   ·simp at hy;subst hy;exact h2
  ·exact h1 y hy
 intro l
 induction l with
 | nil=>intro st _ h1 h2;exact ⟨h1,h2⟩
 | cons x r ih =>
  intro st hx h1 h2
  have hx1:=hx x (List.mem_cons_self ..)
  refine ih _ (fun y hy=>hx y (List.mem_cons_of_mem _ hy)) ?_ ?_
  ·show ∀ y ∈ (stepLn q st x.1).1,y.size≤n
   unfold stepLn
   by_cases c1:0 < st.2.size
   ·by_cases c2:q < (st.2.size:Int)+1+x.1.size
    ·rw [if_pos c1,if_pos c2]
     intro y hy
     rcases List.mem_append.1 hy with hy | hy
     ·exact h1 y hy
     ·simp at hy;subst hy;exact h2
    ·rw [if_pos c1,if_neg c2];exact h1
   ·rw [if_neg c1];exact h1
  ·show (stepLn q st x.1).2.size≤n
   by_cases c1:0 < st.2.size
   ·by_cases c2:q < (st.2.size:Int)+1+x.1.size
    ·rw [(cnt_break c1 x c2).2];exact hx1
    ·rw [(cnt_fits c1 x c2).2];omega
   ·rw [(cnt_nil (q:=q) c1 x).2];exact hx1
end Go.Proofs.YtcbibdhlkdcmiafGreat
namespace Go.Proofs.YtcbibdhlkdcmiafGreat

theorem getD_snoc_lt {α:Type} {l:List α} {x d:α} {k:Nat} (h:k < l.length):(l ++ [x]).getD k d=l.getD k d:=by
 simp [List.getD,List.getElem?_append_left h]
theorem getD_snoc_eq {α:Type} {l:List α} {x d:α}:(l ++ [x]).getD l.length d=x:=by simp [List.getD]
theorem take_snoc_le {α:Type} {l:List α} {x:α} {k:Nat} (h:k≤l.length):(l ++ [x]).take k=l.take k:=by
 rw [List.take_append_of_le_length h]
theorem atCol_place (gs:List GC) (r i:Nat) (e:Int) (x:C) (c:Int):atCol (place gs r i e x) c=atCol (bare r i e x) c:=by simp only [place,atCol]
theorem col_place (gs:List GC) (r i:Nat) (e:Int) (x:C):(place gs r i e x).col=(ffree gs (bare r i e x):Int):=by simp only [place,atCol]
/-- of a cell of the grid: which one of the table it is; it stands as far ahead as may be; behind the one ahead of it -/
structure Laid (t:T) (gs:List GC) (k:Nat):Prop where
 ex:∃ r j:Nat,r < t.rows.length∧j < (t.rows.getD r dR).cells.length∧gs.getD k dG=place (gs.take k) r j (endOf t r) ((t.rows.getD r dR).cells.getD j dC)
 free:freeG (gs.take k) (gs.getD k dG)=true
 first:∀ c:Nat,(c:Int) < (gs.getD k dG).col→freeG (gs.take k) (atCol (gs.getD k dG) c)=false
 after:0 < k→(gs.getD (k - 1) dG).row < (gs.getD k dG).row∨(gs.getD (k - 1) dG).row=(gs.getD k dG).row∧(gs.getD (k - 1) dG).ins+1=(gs.getD k dG).ins
theorem Laid.snoc {t:T} {gs:List GC} {k:Nat} (x:GC) (hk:k < gs.length) (h:Laid t gs k):Laid t (gs ++ [x]) k:=by
 have e1:(gs ++ [x]).getD k dG=gs.getD k dG:=getD_snoc_lt hk
 have e2:(gs ++ [x]).take k=gs.take k:=take_snoc_le (by omega)
 have e3:(gs ++ [x]).getD (k - 1) dG=gs.getD (k - 1) dG:=getD_snoc_lt (by omega)
 refine ⟨?_,?_,?_,?_⟩
 ·rw [e1,e2];exact h.ex
 ·rw [e1,e2];exact h.free
 ·rw [e1,e2];exact h.first
 ·rw [e1,e3];exact h.after
structure LaidTo (t:T) (gs:List GC) (r i:Nat):Prop where
 part:Part t gs r i
 laid:∀ k,k < gs.length→Laid t gs k
 last:0 < gs.length→(gs.getD (gs.length - 1) dG).row < r∨(gs.getD (gs.length - 1) dG).row=r∧(gs.getD (gs.length - 1) dG).ins+1=i
theorem LaidTo.next {t:T} {gs:List GC} {r i:Nat} (h:LaidTo t gs r i) (hl:Low t) (hr:r < t.rows.length) (hi:i < (t.rows.getD r dR).cells.length) :
  LaidTo t (gs ++ [place gs r i (endOf t r) ((t.rows.getD r dR).cells.getD i dC)]) r (i+1):=by
 obtain ⟨⟨h1,h2,h3,h4⟩,hp⟩:=h.part.next hl hr hi
 refine ⟨hp,?_,?_⟩
 ·intro k hk
  rw [List.length_append,List.length_singleton] at hk
  by_cases hk2:k < gs.length
  ·exact (h.laid k hk2).snoc _ hk2
  ·obtain rfl:k=gs.length:=by omega
   have e2:∀ x:GC,(gs ++ [x]).take gs.length=gs:=fun x=>by rw [take_snoc_le (Nat.le_refl _),List.take_length]
   refine ⟨?_,?_,?_,?_⟩
   ·rw [getD_snoc_eq,e2];exact ⟨r,i,hr,hi,rfl⟩
   ·rw [getD_snoc_eq,e2];exact h2
   ·rw [getD_snoc_eq,e2]
    intro c hc
    rw [col_place] at hc
    rw [atCol_place]
    exact h3 c (Int.ofNat_lt.1 hc)
   ·intro h0
    rw [getD_snoc_eq,getD_snoc_lt (by omega)]
    exact h.last h0
 ·intro _
  rw [List.length_append,List.length_singleton,Nat.add_sub_cancel,getD_snoc_eq]
  refine .inr ⟨rfl,?_⟩
  show (i:Int)+1=((i+1:Nat):Int)
  omega
theorem LaidTo.zero (t:T):LaidTo t [] 0 0:=⟨Part.zero t,fun _ hk=>absurd hk (Nat.not_lt_zero _),fun h=>absurd h (Nat.lt_irrefl _)⟩
theorem LaidTo.rowEnd {t:T} {gs:List GC} {r:Nat} (h:LaidTo t gs r (t.rows.getD r dR).cells.length):LaidTo t gs (r+1) 0:=by
 refine ⟨h.part.rowEnd,h.laid,fun h0=>.inl ?_⟩
 rcases h.last h0 with h1 | ⟨h1,_⟩ <;> omega
theorem laid_row {t:T} (hl:Low t) {r:Nat} (hr:r < t.rows.length) (h:LaidTo t (gridTo t r) r 0):∀ i,i≤(t.rows.getD r dR).cells.length→LaidTo t (rowTo (endOf t r) r (t.rows.getD r dR).cells (gridTo t r) i) r i
 | 0,_=>h
 | i+1,hi=>LaidTo.next (laid_row hl hr h i (by omega)) hl hr (by omega)
theorem laid_grid {t:T} (hl:Low t):∀ r,r≤t.rows.length→LaidTo t (gridTo t r) r 0
 | 0,_=>LaidTo.zero t
 | r+1,hr=>(laid_row hl (by omega) (laid_grid hl r (by omega)) _ (Nat.le_refl _)).rowEnd
theorem laid_of {t:T} (hl:Low t) {k:Nat} (hk:k < (gridOf t).length):Laid t (gridOf t) k:=(laid_grid hl _ (Nat.le_refl _)).laid k hk
theorem stands_of {t:T} (hl:Low t) {a:GC} (ha:a ∈ gridOf t):Stands t.rows.length a:=((part_grid hl _ (Nat.le_refl _)).stands a ha).1
theorem colsOf_cons (m:Int) (a:GC) (gs:List GC):colsOf m (a :: gs)=colsOf (max m (a.col+a.cols)) gs:=rfl
theorem colsOf_ge:∀ (gs:List GC) (m:Int),m≤colsOf m gs
 | [],m=>Int.le_refl _
 | a :: gs,m=>by rw [colsOf_cons];exact Int.le_trans (Int.le_max_left _ _) (colsOf_ge gs _)
theorem colsOf_mem:∀ {gs:List GC} {m:Int} {a:GC},a ∈ gs→a.col+a.cols≤colsOf m gs
 | b :: gs,m,a,h=>by
  rw [colsOf_cons]
  rcases List.mem_cons.1 h with rfl | h
  ·exact Int.le_trans (Int.le_max_right _ _) (colsOf_ge gs _)
  ·exact colsOf_mem h
theorem colsOf_le:∀ {gs:List GC} {m B:Int},m≤B→(∀ a ∈ gs,a.col+a.cols≤B)→colsOf m gs≤B
 | [],m,B,h,_=>h
 | a :: gs,m,B,h,h2=>by
  rw [colsOf_cons]
  exact colsOf_le (Int.max_le.2 ⟨h,h2 a (by simp)⟩) (fun b hb=>h2 b (by simp [hb]))
theorem cols_bounds {t:T} (hl:Low t) (hc:t.cols.length≤8):1≤colsOf (max 1 (t.cols.length:Int)) (gridOf t)∧colsOf (max 1 (t.cols.length:Int)) (gridOf t)≤88∧(t.cols.length:Int)≤colsOf (max 1 (t.cols.length:Int)) (gridOf t):=by
 have h1:=colsOf_ge (gridOf t) (max 1 (t.cols.length:Int))
 have h2:colsOf (max 1 (t.cols.length:Int)) (gridOf t)≤88:=colsOf_le (by omega) (fun a ha=>by have:=stands_of hl ha;unfold Stands at this;omega)
 omega
end Go.Proofs.YtcbibdhlkdcmiafGreat
namespace Go.Proofs.YtcbibdhlkdcmiafGreat
open Go.RowKit

/-- the table, its two slices at hand -/
def TA (w:World) (z:Nat) (ac ar:Option Addr) (cc cr:Nat) (t:T):Prop:=ColsAt w z (.slice ac t.cols.length cc) t.cols∧RowsAt w z (.slice ar t.rows.length cr) t.rows
theorem TA.kept {w w':World} {z:Nat} {ac ar:Option Addr} {cc cr:Nat} {t:T} (h:TA w z ac ar cc cr t) (hb:Below w.heap.size w w'):TA w' z ac ar cc cr t:=⟨h.1.kept hb,h.2.kept hb⟩
/-- what stays all along -/
def St (w:World) (tb:Nat) (ac ar:Option Addr) (cc cr:Nat) (t:T) (W:World):Prop:=Below w.heap.size w W∧TA W w.heap.size ac ar cc cr t∧W.heap[tb]?=some (.cells #[.slice ac t.cols.length cc,.int .i64 t.head,.int .i64 t.foot,.slice ar t.rows.length cr,.int .i64 t.gap] 26)
theorem St.kept {w W W':World} {tb:Nat} {ac ar:Option Addr} {cc cr:Nat} {t:T} (h:St w tb ac ar cc cr t W) (hb:Below W.heap.size W W'):St w tb ac ar cc cr t W' :=
 ⟨h.1.trans (hb.mono h.1.size),h.2.1.kept hb,(hb.block tb (Array.getElem?_eq_some_iff.1 h.2.2).1).trans h.2.2⟩
theorem St.at {w W:World} {tb:Nat} {ac ar:Option Addr} {cc cr:Nat} {t:T} (h:St w tb ac ar cc cr t W):(W.cell? ⟨tb,0,none⟩=some (.slice ac t.cols.length cc)∧W.cell? ⟨tb,1,none⟩=some (.int .i64 t.head)∧W.cell? ⟨tb,2,none⟩=some (.int .i64 t.foot)∧W.cell? ⟨tb,3,none⟩=some (.slice ar t.rows.length cr)∧W.cell? ⟨tb,4,none⟩=some (.int .i64 t.gap)):=(fiveZ h.2.2).1
/-- the grid's cells are numbers -/
theorem gOf_gok {t:T} (hD:Drawn t):∀ x ∈ (gOf t).cells,GOk x:=by
 unfold gOf
 split
 ·rename_i h
  have hl:=low_of h hD
  exact fun x hx=>(stands_of hl hx).gok hl.rows
 ·intro x hx
  cases hx
def SGr (w:World) (tb gb:Nat) (ac ar:Option Addr) (cc cr:Nat) (t:T) (ag:Option Addr) (cg:Nat) (W:World):Prop :=
 St w tb ac ar cc cr t W∧GsAt W w.heap.size (.slice ag (gOf t).cells.length cg) (gOf t).cells∧W.heap[gb]?=some (.cells #[.int .i64 (gOf t).rows,.int .i64 (gOf t).cols,.slice ag (gOf t).cells.length cg] 46)
theorem SGr.kept {w W W':World} {tb gb:Nat} {ac ar ag:Option Addr} {cc cr cg:Nat} {t:T} (h:SGr w tb gb ac ar cc cr t ag cg W) (hb:Below W.heap.size W W'):SGr w tb gb ac ar cc cr t ag cg W' :=
 ⟨h.1.kept hb,h.2.1.kept hb,(hb.block gb (Array.getElem?_eq_some_iff.1 h.2.2).1).trans h.2.2⟩
theorem SGr.at {w W:World} {tb gb:Nat} {ac ar ag:Option Addr} {cc cr cg:Nat} {t:T} (h:SGr w tb gb ac ar cc cr t ag cg W):W.cell? ⟨gb,0,none⟩=some (.int .i64 (gOf t).rows)∧W.cell? ⟨gb,1,none⟩=some (.int .i64 (gOf t).cols)∧W.cell? ⟨gb,2,none⟩=some (.slice ag (gOf t).cells.length cg) :=
 ⟨cellB h.2.2,cellB h.2.2,cellB h.2.2⟩
theorem own_slice {w:World} {base:Nat} {v:Value} {gs:List GC} (h:OwnG w base v gs):∃ a cap,v=.slice a gs.length cap:=by
 rcases h.2 with ⟨rfl,hn⟩ | ⟨g,cap,cur,rfl,_⟩
 ·exact ⟨none,0,by rw [hn]⟩
 ·exact ⟨_,cap,rfl⟩
theorem gOf_ok {t:T} (h:tblB t=true):gOf t=⟨t.rows.length,colsOf (max 1 (t.cols.length:Int)) (gridOf t),gridOf t⟩:=by unfold gOf;rw [if_pos h]
theorem gOf_no {t:T} (h:tblB t=false):gOf t=⟨0,0,[]⟩:=by unfold gOf;rw [if_neg (by rw [h];simp)]
/-- and a cell in its box -/
def SCe (w:World) (tb gb cb:Nat) (ac ar:Option Addr) (cc cr:Nat) (t:T) (ag:Option Addr) (cg:Nat) (x:GC) (W:World):Prop :=
 SGr w tb gb ac ar cc cr t ag cg W∧W.heap[cb]?=some (.cells #[.int .i64 x.row,.int .i64 x.col,.int .i64 x.rows,.int .i64 x.cols,.int .i64 x.ins] 50)
theorem SCe.kept {w W W':World} {tb gb cb:Nat} {ac ar ag:Option Addr} {cc cr cg:Nat} {t:T} {x:GC} (h:SCe w tb gb cb ac ar cc cr t ag cg x W) (hb:Below W.heap.size W W'):SCe w tb gb cb ac ar cc cr t ag cg x W' :=
 ⟨h.1.kept hb,(hb.block cb (Array.getElem?_eq_some_iff.1 h.2).1).trans h.2⟩
theorem SCe.at {w W:World} {tb gb cb:Nat} {ac ar ag:Option Addr} {cc cr cg:Nat} {t:T} {x:GC} (h:SCe w tb gb cb ac ar cc cr t ag cg x W):W.cell? ⟨cb,0,none⟩=some (.int .i64 x.row)∧W.cell? ⟨cb,1,none⟩=some (.int .i64 x.col)∧W.cell? ⟨cb,2,none⟩=some (.int .i64 x.rows)∧W.cell? ⟨cb,3,none⟩=some (.int .i64 x.cols)∧W.cell? ⟨cb,4,none⟩=some (.int .i64 x.ins) :=
 ⟨cellB h.2,cellB h.2,cellB h.2,cellB h.2,cellB h.2⟩
/-- small numbers -/
def Small (x:GC):Prop:=(0≤x.row∧x.row≤8)∧(0≤x.col∧x.col≤84)∧(1≤x.rows∧x.rows≤3)∧(1≤x.cols∧x.cols≤4)∧0≤x.ins∧x.ins≤4
theorem Stands.small {n:Nat} {a:GC} (hn:n≤8) (h:Stands n a):Small a:=by
 unfold Stands at h
 unfold Small
 omega
end Go.Proofs.YtcbibdhlkdcmiafGreat
