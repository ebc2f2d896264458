/-
  PROVED HERE: what the model's TxtLines answers: a text's lines, in new memory; nothing that was in memory is turned. Also: the words of a text that is ok, put together, are it; each is a text of one word. Also: with more room there are no more lines; with all the room that a text wishes there is one, if it has words; no line is wider than told, but a word. Also: no cell is cramped, as lists: when columns were made wide enough for all cells, each cell's columns are together, with what stands between, as wide as it needs at least; and no column was made less wide. Also: how wide columns are at least, as lists: wide enough for all cells, and what is said of them. Also: how wide columns would be, as lists: wide enough for all texts in one line, and no less than at least.
-/
import Derived.Test.YtcbibdhlkdcmiafGreatB3
import Derived.Test.YtcbibdhlkdcmiafGreatB31
import Derived.Test.YtcbibdhlkdcmiafGreatB21
import Derived.Test.YtcbibdhlkdcmiafGreatB4
import Derived.Deep.QuietTactic
import Derived.BigQuiet
import Derived.WalkLawsBesides
import Derived.WalkSpells
import Derived.RegionTactic
namespace Go.Proofs.YtcbibdhlkdcmiafGreat
open Go.RowKit

theorem infoLs:(Tryz.prog.info? 9).map (fun i=>(i.zero,i.size,i.bytes))=some (some (Value.string ⟨#[]⟩),1,16):=by kernel_rfl
/-- where no line is being built there is none -/
def LnOk (st:List ByteArray × ByteArray):Prop:=st.2.size=0→st.1=[]
theorem lnOk_step (q:Int) (st:List ByteArray × ByteArray) (x:W30):LnOk (stepLn q st x.1):=by
 have hx:=x.2.1
 intro h0
 unfold stepLn at h0 ⊢
 by_cases h1:0 < st.2.size
 ·by_cases h2:q < (st.2.size:Int)+1+x.1.size
  ·rw [if_pos h1,if_pos h2] at h0;dsimp only at h0;omega
  ·rw [if_pos h1,if_neg h2] at h0;dsimp only at h0;rw [ByteArray.size_append] at h0;omega
 ·rw [if_neg h1] at h0;dsimp only at h0;omega
theorem lnOk_all (q:Int) (ws:List W30):LnOk (lnSt q ws):=by
 suffices h:∀ (l:List W30) (st:List ByteArray × ByteArray),LnOk st→LnOk (l.foldl (fun st x=>stepLn q st x.1) st) from h ws _ (fun _=>rfl)
 intro l
 induction l with
 | nil=>intro st h;exact h
 | cons x r ih=>intro st _;exact ih _ (lnOk_step q st x)
/-- the last line -/
def lastLn (l:List ByteArray):ByteArray:=l.getD (l.length - 1) eS
theorem out_nil {q:Int} {st:List ByteArray × ByteArray} (hok:LnOk st) (h:(lnOut st).length=0) (x:W30):lnOut (stepLn q st x.1)=lnOut st ++ [x.1]:=by
 obtain ⟨lines,line⟩:=st
 have h0:¬ 0 < line.size:=fun h0=>by simp [lnOut,h0] at h
 have hl:lines=[]:=hok (show line.size=0 by omega)
 subst hl
 have hx:=x.2.1
 simp [stepLn,lnOut,h0,hx]
theorem out_line {st:List ByteArray × ByteArray} (h:(lnOut st).length ≠ 0) (hok:LnOk st):0 < st.2.size∧lnOut st=st.1 ++ [st.2]∧lastLn (lnOut st)=st.2:=by
 obtain ⟨lines,line⟩:=st
 have h0:0 < line.size:=by
  rcases Nat.eq_zero_or_pos line.size with h0 | h0
  ·have hl:lines=[]:=hok h0
   subst hl
   simp [lnOut,h0] at h
  ·exact h0
 have e:lnOut (lines,line)=lines ++ [line]:=by simp [lnOut,h0]
 refine ⟨h0,e,?_⟩
 rw [e]
 simp [lastLn,List.getD]
theorem out_break {q:Int} {st:List ByteArray × ByteArray} (hok:LnOk st) (h:(lnOut st).length ≠ 0) (x:W30) (hq:q < ((lastLn (lnOut st)).size:Int)+1+x.1.size):lnOut (stepLn q st x.1)=lnOut st ++ [x.1]:=by
 obtain ⟨h1,h2,h3⟩:=out_line h hok
 rw [h3] at hq
 have hx:=x.2.1
 have e:stepLn q st x.1=(st.1 ++ [st.2],x.1):=by unfold stepLn;rw [if_pos h1,if_pos hq]
 rw [e,h2]
 simp [lnOut,hx]
theorem out_fits {q:Int} {st:List ByteArray × ByteArray} (hok:LnOk st) (h:(lnOut st).length ≠ 0) (x:W30) (hq:¬ q < ((lastLn (lnOut st)).size:Int)+1+x.1.size):lnOut (stepLn q st x.1)=(lnOut st).set ((lnOut st).length - 1) (lastLn (lnOut st) ++ ⟨#[32]⟩ ++ x.1):=by
 obtain ⟨h1,h2,h3⟩:=out_line h hok
 rw [h3] at hq ⊢
 have hx:=x.2.1
 have e:stepLn q st x.1=(st.1,st.2 ++ ⟨#[32]⟩ ++ x.1):=by unfold stepLn;rw [if_pos h1,if_neg hq]
 have hp:0 < (st.2 ++ ⟨#[32]⟩ ++ x.1).size:=by rw [ByteArray.size_append];omega
 rw [e,h2]
 simp only [lnOut,hp,if_true,List.length_append,List.length_cons,List.length_nil,Nat.add_sub_cancel,Nat.zero_add]
 rw [List.set_append_right _ _ (Nat.le_refl _)]
 simp
theorem out_bound (q:Int) (ws:List W30):(lnOut (lnSt q ws)).length≤ws.length+1∧(lastLn (lnOut (lnSt q ws))).size≤31 * ws.length:=by
 obtain ⟨h1,h2⟩:=lnSt_bound q ws
 constructor
 ·unfold lnOut
  split
  ·simp;omega
  ·omega
 ·rcases Nat.eq_zero_or_pos (lnOut (lnSt q ws)).length with h | h
  ·have:lnOut (lnSt q ws)=[]:=List.eq_nil_of_length_eq_zero h
   rw [this]
   simp [lastLn,eS]
  ·rw [(out_line (by omega) (lnOk_all q ws)).2.2];exact h2
theorem lnSt_take {q:Int} {l:List W30} {k:Nat} (h:k < l.length):lnSt q (l.take (k+1))=stepLn q (lnSt q (l.take k)) l[k].1:=by
 rw [List.take_succ_eq_append_getElem h,lnSt_snoc]
theorem row_owns {w:World} {B:Nat} {v:Value} {l:List ByteArray} (h:RowS w B v l):w.ownsRow B 9 1 v l.length (l.map Value.string):=by
 refine ⟨by simp,?_⟩
 rcases h with ⟨hv,rfl⟩ | ⟨g,cap,cur,hv,hb,hg,h1,h2,h3,h4⟩
 ·exact Or.inl ⟨hv,rfl⟩
 ·refine Or.inr ⟨g,cap,cur,hv,hb,hg,h1,h2,by omega,?_⟩
  apply List.ext_getElem?
  intro i
  rw [Nat.mul_one]
  by_cases hi:i < l.length
  ·rw [List.getElem?_take_of_lt hi,Array.getElem?_toList,h4 i hi]
   simp [List.getD,hi]
  ·rw [List.getElem?_eq_none (by simp;omega),List.getElem?_eq_none (by simp;omega)]

set_option maxRecDepth 100000 in
set_option maxHeartbeats 2000000 in
theorem specTxtLines (s:ByteArray) (hs:s.size≤maxLen) (q:Int) (hq:-9223372036854775808≤q∧q≤9223372036854775807) (w:World) :
  Calls Tryz.prog 97 #[.string s,.int .i64 q] w fun e w'=>∃ v,e=.returned v∧RowS w' w.heap.size v (lnOut (lnSt q (wordsW s)))∧Below w.heap.size w w':=by
 obtain ⟨i0,hi,hz0,hz1,hz2⟩:=info_parts infoLs
 have hwl:=wordsW_len s
 have HW:=Hid.intro (specTxtWords s hs)
 generalize wordsW s=l at HW hwl ⊢
 go_enter Tryz.func97,Tryz.ntmps97
 go_wp2_with fail
 refine (HW.out _).mono ?_
 rintro e w1 ⟨v1,rfl,hv1,hb1⟩
 have V1:=Hid.intro hv1
 have K1:=Hid.intro hb1
 obtain ⟨a1,c1,rfl⟩:=words_form hv1
 have hsz1:=hb1.size
 clear hv1 hb1
 go_wp2_with fail
 go_loopw [6,7] (fun o i W=>∃ k:Nat,k≤l.length∧i=.int .i64 k∧Hid (RowS W w1.heap.size o (lnOut (lnSt q (l.take k))))∧Hid (Below w1.heap.size w1 W)) (fun _ i _=>l.length - (intOf i).toNat)
 case atStart=>exact ⟨0,Nat.zero_le _,rfl,RowS.of_owns (World.ownsRow_made w1 #[] 0 (Nat.le_refl _) (Nat.zero_le _) rfl),k_alloc (Below.refl _ _) _⟩
 case round =>
  obtain ⟨k,hk,rfl,HR,HB⟩:=hrel
  by_cases hlt:k < l.length
  ·obtain ⟨g,cap',e',h1,h2,hx⟩:=wordsAt (ownsRow_keptS V1.out HB.out) hlt
   simp only [Value.slice.injEq,true_and] at e'
   obtain ⟨rfl,rfl⟩:=e'
   have h3:=l[k].2
   have HT:=Hid.intro (lnSt_take (q:=q) hlt)
   obtain ⟨hb1,hb2⟩:=out_bound q (l.take k)
   have hok:=Hid.intro (lnOk_all q (l.take k))
   have htl:(l.take k).length≤30:=by rw [List.length_take];omega
   have HN:=Hid.intro (fun h=>out_nil (q:=q) hok.out h l[k])
   have HK:=Hid.intro (fun h=>out_break (q:=q) hok.out h l[k])
   have HF:=Hid.intro (fun h=>out_fits (q:=q) hok.out h l[k])
   rw [← HT.out] at HN HK HF
   generalize l[k]=x at hx h3 HN HK HF
   generalize hout:lnOut (lnSt q (l.take k))=out at HR HN HK HF hb1 hb2
   clear hout HT hok
   obtain ⟨ao,co,rfl⟩:=HR.out.form
   unfold maxLen at h2
   have hbs:=HB.out.size
   by_cases hn0:out.length=0
   ·have hd:decide ((0:Int) < (out.length:Int))=false:=decide_eq_false (by omega)
    have HE:=Hid.intro (HN.out hn0)
    obtain rfl:out=[]:=List.eq_nil_of_length_eq_zero hn0
    clear hn0 hd HK HF HN
    have hd:decide ((0:Int) < (0:Int))=false:=rfl
    go_wp2_with fail
    go_quiet (fail)
    have hO:(wr.drewN nq).ownsRow w1.heap.size 9 1 (.slice ao 0 co) 0 []:=row_owns HR.out
    go_wp2_with (at_builtin;refine wpList_append_own _ rfl _ _ 51 rfl w1.heap.size 9 i0 (.string ⟨#[]⟩) 1 16 Tryz.underlying51 hi hz0 hz1 hz2 rfl (by decide) _ _ _ rfl (hO.alloc _) ⟨wr.heap.size,0,none⟩ 1 1 [.string x.1] rfl rfl ?c1 ?c2 ?c3 ?c4 ?c5 ?_)
    case c1=>exact cell_one_new (wr.drewN nq) (.string x.1) 9
    case c2=>intro u hu;simp at hu;subst hu;rfl
    case c3=>unfold maxLen;omega
    case c4=>omega
    case c5=>simp;omega
    intro v' w2 hown' hgrow' _
    have HB2:=Hid.intro ((k_alloc (k_drewN HB.out nq) (.cells #[.string x.1] 9)).grown hgrow' (by simp;omega) (fun b hb=>(hO.lt b hb).1))
    have HR2:Hid (RowS w2 w1.heap.size v' (lnOut (lnSt q (l.take (k+1))))):=by
     show RowS _ _ _ _
     rw [HE.out]
     exact RowS.of_owns hown'
    obtain ⟨g',cap',rfl⟩:=Joins.ownsRow_form hown' (by omega)
    clear hown' hgrow' hO HR HB
    go_wp2
    go_roundw
    case rel=>exact ⟨k+1,by omega,by go_num,HR2,HB2⟩
    case measure=>simp [intOf];omega
   ·obtain ⟨m,hm⟩:=Nat.exists_eq_succ_of_ne_zero hn0
    obtain ⟨go,co',e',hgo,hgs,hc1,hc2,hy,hfy⟩:=HR.out.get (i:=out.length - 1) (by omega)
    simp only [Value.slice.injEq,true_and] at e'
    obtain ⟨rfl,rfl⟩:=e'
    have hyl:out.getD (out.length - 1) eS=lastLn out:=rfl
    rw [hyl] at hy
    have hm1:out.length - 1=m:=by omega
    have hm2:out.length=m+1:=hm
    have HR0:=Hid.intro (row_owns HR.out)
    have HRs:=Hid.intro (fun y=>HR.out.set (i:=out.length - 1) (by omega) y)
    have HKo:=Hid.intro (HK.out hn0)
    have HFo:=Hid.intro (HF.out hn0)
    generalize lastLn out=y at hy hb2 HKo HFo
    rw [hm1] at hy hfy HRs HFo
    rw [hm2] at hc1 HR0 HRs
    rw [hm2]
    unfold maxLen at hc2
    have hd:decide ((0:Int) < ((m:Int)+1))=true:=decide_eq_true (by omega)
    by_cases hqq:q < (y.size:Int)+1+x.1.size
    ·have hdq:decide ((y.size:Int)+1+(x.1.size:Int)≤q)=false:=decide_eq_false (by omega)
     have HE:=Hid.intro (HKo.out hqq)
     go_wp2_with fail
     go_quiet (fail)
     have hO:(wr.drewN nq).ownsRow w1.heap.size 9 1 (.slice (some ⟨go,0,none⟩) (m+1) co) (m+1) (out.map Value.string):=HR0.out
     go_wp2_with (at_builtin;refine wpList_append_own _ rfl _ _ 51 rfl w1.heap.size 9 i0 (.string ⟨#[]⟩) 1 16 Tryz.underlying51 hi hz0 hz1 hz2 rfl (by decide) _ _ _ rfl (hO.alloc _) ⟨wr.heap.size,0,none⟩ 1 1 [.string x.1] rfl rfl ?c1 ?c2 ?c3 ?c4 ?c5 ?_)
     case c1=>exact cell_one_new (wr.drewN nq) (.string x.1) 9
     case c2=>intro u hu;simp at hu;subst hu;rfl
     case c3=>unfold maxLen;omega
     case c4=>omega
     case c5=>simp;omega
     intro v' w2 hown' hgrow' _
     have HB2:=Hid.intro ((k_alloc (k_drewN HB.out nq) (.cells #[.string x.1] 9)).grown hgrow' (by simp;omega) (fun b hb=>(hO.lt b hb).1))
     have HR2:Hid (RowS w2 w1.heap.size v' (lnOut (lnSt q (l.take (k+1))))):=by
      show RowS _ _ _ _
      rw [HE.out]
      exact RowS.of_owns (by rw [List.length_append,List.map_append,hm2];exact hown')
     obtain ⟨g',cap',rfl⟩:=Joins.ownsRow_form hown' (by omega)
     clear hown' hgrow' hO HR HB
     go_wp2
     go_roundw
     case rel=>exact ⟨k+1,by omega,by go_num,HR2,HB2⟩
     case measure=>simp [intOf];omega
    ·have hdq:decide ((y.size:Int)+1+(x.1.size:Int)≤q)=true:=decide_eq_true (by omega)
     have HE:=Hid.intro (HFo.out hqq)
     have hz3:¬ 9223372036854775807 < y.size+1:=by omega
     have hz4:¬ 9223372036854775807 < y.size+1+x.1.size:=by omega
     go_wp2_with fail
     go_quiet (fail)
     go_wp2_with fail
     have hy':(wr.drewN nq).cell? ⟨go,m,none⟩=some (.string y):=hy
     have hx':(wr.drewN nq).cell? ⟨g,k,none⟩=some (.string x.1):=hx
     have hf':(wr.drewN nq).frozen? ⟨go,m,none⟩=false:=hfy
     have HB1:=Hid.intro (k_drewN HB.out nq)
     have HR1:Hid (∀ y,RowS ((wr.drewN nq).setCell ⟨go,m,none⟩ (.string y)) w1.heap.size (.slice (some ⟨go,0,none⟩) (m+1) co) (out.set m y)):=HRs
     clear hy hx hfy HR HRs HR0 HN HK HF HKo HFo HB
     generalize wr.drewN nq=W1 at hy' hx' hf' HB1 HR1 ⊢
     go_region
     all_goals
      go_wp2
      go_roundw
      case rel=>exact ⟨k+1,by omega,by go_num,by rw [HE.out];exact HR1.out _,Below.drew ((HB1.out).setCell (p:=⟨go,m,none⟩) hgo _)⟩
      case measure=>simp [intOf];omega
  ·obtain rfl:k=l.length:=by omega
   rw [List.take_length] at HR
   obtain ⟨ao,co,rfl⟩:=HR.out.form
   go_wp2
   go_ret
   exact ⟨_,rfl,HR.out.base hsz1,k_trans K1.out HB.out⟩
end Go.Proofs.YtcbibdhlkdcmiafGreat
namespace Go.Proofs.YtcbibdhlkdcmiafGreat
open Go.RowKit

/-- texts with one blank between any two, from the right -/
def joinL:List ByteArray→ByteArray
 | []=>⟨#[]⟩
 | [x]=>x
 | x :: y :: r=>x ++ ⟨#[32]⟩ ++ joinL (y :: r)
end Go.Proofs.YtcbibdhlkdcmiafGreat
namespace Go.Proofs.YtcbibdhlkdcmiafGreat
open Go.RowKit

/-- how many lines, and how long the last one is: no more, in this order -/
def LeLn (a b:List ByteArray × ByteArray):Prop:=(lnOut a).length < (lnOut b).length∨(lnOut a).length=(lnOut b).length∧a.2.size≤b.2.size
theorem cnt_nil {q:Int} {st:List ByteArray × ByteArray} (h:¬ 0 < st.2.size) (x:W30):(lnOut (stepLn q st x.1)).length=(lnOut st).length+1∧(stepLn q st x.1).2.size=x.1.size:=by
 have hx:=x.2.1
 have e:stepLn q st x.1=(st.1,x.1):=by unfold stepLn;rw [if_neg h]
 rw [e]
 simp [lnOut,h,hx]
theorem cnt_break {q:Int} {st:List ByteArray × ByteArray} (h:0 < st.2.size) (x:W30) (hq:q < (st.2.size:Int)+1+x.1.size):(lnOut (stepLn q st x.1)).length=(lnOut st).length+1∧(stepLn q st x.1).2.size=x.1.size:=by
 have hx:=x.2.1
 have e:stepLn q st x.1=(st.1 ++ [st.2],x.1):=by unfold stepLn;rw [if_pos h,if_pos hq]
 rw [e]
 simp [lnOut,h,hx]
theorem cnt_fits {q:Int} {st:List ByteArray × ByteArray} (h:0 < st.2.size) (x:W30) (hq:¬ q < (st.2.size:Int)+1+x.1.size):(lnOut (stepLn q st x.1)).length=(lnOut st).length∧(stepLn q st x.1).2.size=st.2.size+1+x.1.size:=by
 have e:stepLn q st x.1=(st.1,st.2 ++ ⟨#[32]⟩ ++ x.1):=by unfold stepLn;rw [if_pos h,if_neg hq]
 have hz:(st.2 ++ ⟨#[32]⟩ ++ x.1).size=st.2.size+1+x.1.size:=by rw [ByteArray.size_append,ByteArray.size_append];rfl
 rw [e]
 refine ⟨?_,hz⟩
 have hp:0 < (st.2 ++ ⟨#[32]⟩ ++ x.1).size:=by omega
 simp only [lnOut,hp,h,if_true,List.length_append,List.length_cons,List.length_nil]
/-- a line is being built just where there are lines -/
theorem cnt_zero {st:List ByteArray × ByteArray} (hok:LnOk st):(¬ 0 < st.2.size→(lnOut st).length=0)∧(0 < st.2.size→0 < (lnOut st).length):=by
 refine ⟨fun h=>?_,fun h=>?_⟩
 ·have:st.1=[]:=hok (by omega)
  simp [lnOut,h,this]
 ·simp [lnOut,h]
theorem wider_step {p q:Int} (hpq:p≤q) {a b:List ByteArray × ByteArray} (ha:LnOk a) (hb:LnOk b) (h:LeLn a b) (x:W30):LeLn (stepLn q a x.1) (stepLn p b x.1):=by
 have hx:=x.2.1
 obtain ⟨za,za'⟩:=cnt_zero ha
 obtain ⟨zb,zb'⟩:=cnt_zero hb
 unfold LeLn at h ⊢
 by_cases h1:0 < a.2.size
 ·have c1:=za' h1
  have h2:0 < b.2.size:=by
   by_cases h2:0 < b.2.size
   ·exact h2
   ·have:=zb h2;omega
  by_cases qa:q < (a.2.size:Int)+1+x.1.size
  ·obtain ⟨e1,e2⟩:=cnt_break h1 x qa
   by_cases qb:p < (b.2.size:Int)+1+x.1.size
   ·obtain ⟨e3,e4⟩:=cnt_break h2 x qb;omega
   ·obtain ⟨e3,e4⟩:=cnt_fits h2 x qb;omega
  ·obtain ⟨e1,e2⟩:=cnt_fits h1 x qa
   by_cases qb:p < (b.2.size:Int)+1+x.1.size
   ·obtain ⟨e3,e4⟩:=cnt_break h2 x qb;omega
   ·obtain ⟨e3,e4⟩:=cnt_fits h2 x qb;omega
 ·have c1:=za h1
  obtain ⟨e1,e2⟩:=cnt_nil (q:=q) h1 x
  by_cases h2:0 < b.2.size
  ·have:=zb' h2
   by_cases qb:p < (b.2.size:Int)+1+x.1.size
   ·obtain ⟨e3,e4⟩:=cnt_break h2 x qb;omega
   ·obtain ⟨e3,e4⟩:=cnt_fits h2 x qb;omega
  ·obtain ⟨e3,e4⟩:=cnt_nil (q:=p) h2 x
   have:=zb h2
   omega
theorem wider {p q:Int} (hpq:p≤q) (ws:List W30):(lnOut (lnSt q ws)).length≤(lnOut (lnSt p ws)).length:=by
 suffices h:∀ (l:List W30) (a b:List ByteArray × ByteArray),LnOk a→LnOk b→LeLn a b→LeLn (l.foldl (fun st x=>stepLn q st x.1) a) (l.foldl (fun st x=>stepLn p st x.1) b) by
  have:=h ws ([],⟨#[]⟩) ([],⟨#[]⟩) (fun _=>rfl) (fun _=>rfl) (Or.inr ⟨rfl,Nat.le_refl _⟩)
  unfold LeLn at this
  have e1:lnSt q ws=ws.foldl (fun st x=>stepLn q st x.1) ([],⟨#[]⟩):=rfl
  have e2:lnSt p ws=ws.foldl (fun st x=>stepLn p st x.1) ([],⟨#[]⟩):=rfl
  rw [e1,e2]
  omega
 intro l
 induction l with
 | nil=>intro a b _ _ h;exact h
 | cons x r ih=>intro a b ha hb h;exact ih _ _ (lnOk_step q a x) (lnOk_step p b x) (wider_step hpq ha hb h x)
/-- no line is wider than told, but a word -/
theorem line_le {q:Int} {n:Nat} (hq:q≤(n:Int)) (ws:List W30) (hw:∀ x ∈ ws,x.1.size≤n):∀ y ∈ lnOut (lnSt q ws),y.size≤n:=by
 suffices h:∀ (l:List W30) (st:List ByteArray × ByteArray),(∀ x ∈ l,x.1.size≤n)→(∀ y ∈ st.1,y.size≤n)→st.2.size≤n→(∀ y ∈ (l.foldl (fun st x=>stepLn q st x.1) st).1,y.size≤n)∧(l.foldl (fun st x=>stepLn q st x.1) st).2.size≤n by
  obtain ⟨h1,h2⟩:=h ws ([],⟨#[]⟩) hw (fun y hy=>by cases hy) (Nat.zero_le _)
  intro y hy
  unfold lnOut at hy
  split at hy
  ·rcases List.mem_append.1 hy with hy | hy
   ·exact h1 y hy
   ·simp at hy;subst hy;exact h2
  ·exact h1 y hy
 intro l
 induction l with
 | nil=>intro st _ h1 h2;exact ⟨h1,h2⟩
 | cons x r ih =>
  intro st hx h1 h2
  have hx1:=hx x (List.mem_cons_self ..)
  refine ih _ (fun y hy=>hx y (List.mem_cons_of_mem _ hy)) ?_ ?_
  ·show ∀ y ∈ (stepLn q st x.1).1,y.size≤n
   unfold stepLn
   by_cases c1:0 < st.2.size
   ·by_cases c2:q < (st.2.size:Int)+1+x.1.size
    ·rw [if_pos c1,if_pos c2]
     intro y hy
     rcases List.mem_append.1 hy with hy | hy
     ·exact h1 y hy
     ·simp at hy;subst hy;exact h2
    ·rw [if_pos c1,if_neg c2];exact h1
   ·rw [if_neg c1];exact h1
  ·show (stepLn q st x.1).2.size≤n
   by_cases c1:0 < st.2.size
   ·by_cases c2:q < (st.2.size:Int)+1+x.1.size
    ·rw [(cnt_break c1 x c2).2];exact hx1
    ·rw [(cnt_fits c1 x c2).2];omega
   ·rw [(cnt_nil (q:=q) c1 x).2];exact hx1
end Go.Proofs.YtcbibdhlkdcmiafGreat
namespace Go.Proofs.YtcbibdhlkdcmiafGreat
open Go.RowKit

/-- no number is less -/
def LeL (a b:List Int):Prop:=a.length=b.length∧∀ i,i < a.length→a.getD i 0≤b.getD i 0
theorem LeL.refl (a:List Int):LeL a a:=⟨rfl,fun _ _=>Int.le_refl _⟩
theorem LeL.trans {a b c:List Int} (h:LeL a b) (k:LeL b c):LeL a c:=⟨h.1.trans k.1,fun i hi=>Int.le_trans (h.2 i hi) (k.2 i (by rw [← h.1];exact hi))⟩
theorem LeL.sub {a b:List Int} (h:LeL a b) {c m:Nat} (hc:c+m≤a.length):LeL (subL a c m) (subL b c m):=by
 have hb:c+m≤b.length:=by rw [← h.1];exact hc
 refine ⟨by rw [subL_len hc,subL_len hb],fun i hi=>?_⟩
 rw [subL_len hc] at hi
 rw [subL_get hc hi,subL_get hb hi]
 exact h.2 _ (by omega)
theorem sum_zip:∀ (a b:List Int),a.length=b.length→(List.zipWith (·+·) a b).sum=a.sum+b.sum
 | [],[],_=>by simp
 | [],_ :: _,h=>absurd h (by simp)
 | _ :: _,[],h=>absurd h (by simp)
 | x :: a,y :: b,h=>by
  rw [List.zipWith_cons_cons,List.sum_cons,List.sum_cons,List.sum_cons,sum_zip a b (by simpa using h)]
  omega
/-- what a cell has -/
def hasV (l:List Int) (gap:Int) (x:GC):Int:=(subL l x.col.toNat x.cols.toNat).sum+gap * (x.cols - 1)
end Go.Proofs.YtcbibdhlkdcmiafGreat
namespace Go.Proofs.YtcbibdhlkdcmiafGreat
open Go.RowKit

/-- the first k columns have what is said of them, if that is more -/
def fixTo (ps:List (Int × Int)) (l:List Int):Nat→List Int
 | 0=>l
 | k+1=>if (sd ps k).1=1 then (fixTo ps l k).set k (max ((fixTo ps l k).getD k 0) (sd ps k).2) else fixTo ps l k
theorem fixTo_len (ps:List (Int × Int)) (l:List Int):∀ k,(fixTo ps l k).length=l.length
 | 0=>rfl
 | k+1=>by rw [fixTo];split;rw [List.length_set];exact fixTo_len ps l k;exact fixTo_len ps l k
theorem fixTo_out (ps:List (Int × Int)) (l:List Int) {i:Nat}:∀ k,k≤i→(fixTo ps l k).getD i 0=l.getD i 0
 | 0,_=>rfl
 | k+1,h=>by
  rw [fixTo]
  split
  ·rw [← fixTo_out ps l (i:=i) k (by omega)]
   simp only [List.getD,List.getElem?_set_ne (show k ≠ i by omega)]
  ·exact fixTo_out ps l k (by omega)
/-- what a column has at last -/
def fixV (ps:List (Int × Int)) (k:Nat) (x:Int):Int:=if (sd ps k).1=1 then max x (sd ps k).2 else x
theorem fixTo_in (ps:List (Int × Int)) (l:List Int) {i:Nat} (hi:i < l.length):∀ k,i < k→(fixTo ps l k).getD i 0=fixV ps i (l.getD i 0)
 | k+1,h=>by
  rw [fixTo]
  by_cases e:i=k
  ·subst e
   rw [fixTo_out ps l i (Nat.le_refl _)]
   have hl:i < (fixTo ps l i).length:=by rw [fixTo_len];exact hi
   unfold fixV
   split
   ·simp [List.getD,hl]
   ·exact fixTo_out ps l i (Nat.le_refl _)
  ·rw [← fixTo_in ps l hi k (by omega)]
   split
   ·simp only [List.getD,List.getElem?_set_ne (show k ≠ i by omega)]
   ·rfl
/-- what a cell's text needs -/
def leastP (t:T) (x:GC):Int:=(leastOf (wordsW (textOf t x)):Nat)
def colN (t:T):Nat:=(gOf t).cols.toNat
def needL (t:T) (p:GC→Int):List Int:=needTo p t.gap (gOf t).cells (zeroL (colN t)) 4
def leastL (t:T):List Int:=fixTo t.cols (needL t (leastP t)) (colN t)
theorem needL_len (t:T) (p:GC→Int):(needL t p).length=colN t:=by unfold needL;rw [needTo_len];simp [zeroL]
theorem leastL_len (t:T):(leastL t).length=colN t:=by unfold leastL;rw [fixTo_len,needL_len]
theorem colN_of {t:T} {C:Nat} (h:(gOf t).cols=C):colN t=C:=by unfold colN;rw [h];exact Int.toNat_natCast C
theorem needL_up {t:T} (hD:Drawn t) {p:GC→Int} (hp:∀ x,p x≤30):UpB (needL t p) 4800:=by
 obtain ⟨h40,C,hgc,hC,hcel⟩:=cel_of hD
 unfold needL
 rw [colN_of hgc]
 exact need_up hcel h40 (by simp [zeroL]) hp (zero_up _) 4 (by omega)
theorem sd_small {t:T} {k:Nat} (hk:k < colN t):(sd t.cols k).1=1→0≤(sd t.cols k).2∧(sd t.cols k).2≤60:=by
 intro h1
 cases h:tblB t with
 | false=>unfold colN at hk;rw [gOf_no h] at hk;exact absurd hk (Nat.not_lt_zero _)
 | true =>
  simp only [tblB,colsB,Bool.and_eq_true,List.all_eq_true] at h
  by_cases hl:k < t.cols.length
  ·rw [sd_yes hl] at h1 ⊢
   have:=h.2.2.2.1.2 (t.cols.getD k (0,0)) (by rw [show t.cols.getD k (0,0)=t.cols[k] by simp [List.getD,hl]];exact List.getElem_mem hl)
   simp only [colB,decide_eq_true_eq] at this
   omega
  ·rw [sd_no (inB_false (by omega))] at h1
   simp at h1
theorem leastL_get {t:T} {k:Nat} (hk:k < colN t):(leastL t).getD k 0=fixV t.cols k ((needL t (leastP t)).getD k 0):=by
 unfold leastL
 exact fixTo_in _ _ (by rw [needL_len];exact hk) _ hk
theorem leastP_le (t:T) (x:GC):0≤leastP t x∧leastP t x≤30:=by
 unfold leastP
 have:=leastOf_le (wordsW (textOf t x))
 omega
theorem leastL_up {t:T} (hD:Drawn t):UpB (leastL t) 5000:=by
 intro i hi
 rw [leastL_len] at hi
 rw [leastL_get hi]
 have h1:=needL_up hD (fun x=>(leastP_le t x).2) i (by rw [needL_len];exact hi)
 have h2:=sd_small hi
 unfold fixV
 split
 ·have:=h2 (by assumption);omega
 ·omega
end Go.Proofs.YtcbibdhlkdcmiafGreat
namespace Go.Proofs.YtcbibdhlkdcmiafGreat
open Go.RowKit

/-- the first k numbers: the greater one of two lists -/
def maxTo (a b:List Int):Nat→List Int
 | 0=>a
 | k+1=>(maxTo a b k).set k (max (a.getD k 0) (b.getD k 0))
theorem maxTo_len (a b:List Int):∀ k,(maxTo a b k).length=a.length
 | 0=>rfl
 | k+1=>by rw [maxTo,List.length_set];exact maxTo_len a b k
theorem maxTo_out (a b:List Int) {i:Nat}:∀ k,k≤i→(maxTo a b k).getD i 0=a.getD i 0
 | 0,_=>rfl
 | k+1,h=>by
  rw [maxTo,← maxTo_out a b (i:=i) k (by omega)]
  simp only [List.getD,List.getElem?_set_ne (show k ≠ i by omega)]
theorem maxTo_in (a b:List Int) {i:Nat} (hi:i < a.length):∀ k,i < k→(maxTo a b k).getD i 0=max (a.getD i 0) (b.getD i 0)
 | k+1,h=>by
  rw [maxTo]
  by_cases e:i=k
  ·subst e
   have hl:i < (maxTo a b i).length:=by rw [maxTo_len];exact hi
   simp only [List.getD,List.getElem?_set_self hl,Option.getD_some]
  ·rw [← maxTo_in a b hi k (by omega)]
   simp only [List.getD,List.getElem?_set_ne (show k ≠ i by omega)]
/-- how wide a cell's text would be -/
def wishP (t:T) (x:GC):Int:=(wishOf (textOf t x):Nat)
theorem wishP_le (t:T) (x:GC):0≤wishP t x∧wishP t x≤30:=by
 unfold wishP
 have:=wishOf_le (textOf t x)
 omega
def wishL (t:T):List Int:=maxTo (needL t (wishP t)) (leastL t) (colN t)
theorem wishL_len (t:T):(wishL t).length=colN t:=by unfold wishL;rw [maxTo_len,needL_len]
theorem wishL_get {t:T} {k:Nat} (hk:k < colN t):(wishL t).getD k 0=max ((needL t (wishP t)).getD k 0) ((leastL t).getD k 0):=by
 unfold wishL
 exact maxTo_in _ _ (by rw [needL_len];exact hk) _ hk
theorem wishL_up {t:T} (hD:Drawn t):UpB (wishL t) 5000:=by
 intro i hi
 rw [wishL_len] at hi
 rw [wishL_get hi]
 have h1:=needL_up hD (fun x=>(wishP_le t x).2) i (by rw [needL_len];exact hi)
 have h2:=leastL_up hD i (by rw [leastL_len];exact hi)
 omega
end Go.Proofs.YtcbibdhlkdcmiafGreat
