/-
  PROVED HERE: what the model's TxtLines answers: a text's lines, in new memory; nothing that was in memory is turned. Also: 8 more texts of the same proof.
-/
import Derived.Test.YtcbibdhlkdcmiaiGreatC10
import Derived.Test.YtcbibdhlkdcmiaiGreatC32
import Derived.Test.YtcbibdhlkdcmiaiGreatC24
import Derived.Test.YtcbibdhlkdcmiaiGreatC9
import Derived.Test.YtcbibdhlkdcmiaiGreatC25
import Derived.Test.YtcbibdhlkdcmiaiGreatC12
import Derived.Deep.QuietTactic
import Derived.BigQuiet
import Derived.WalkLawsBesides
import Derived.WalkSpells
import Derived.RegionTactic
namespace Go.Proofs.YtcbibdhlkdcmiaiGreat
open Go.RowKit
theorem infoLs:(Tryz.prog.info? 9).map (fun i=>(i.zero,i.size,i.bytes))=some (some (Value.string ⟨#[]⟩),1,16):=by kernel_rfl
def LnOk (st:List ByteArray × ByteArray):Prop:=st.2.size=0→st.1=[]
theorem lnOk_step (q:Int) (st:List ByteArray × ByteArray) (x:W30):LnOk (stepLn q st x.1):=by
 have hx:=x.2.1
 intro h0
 unfold stepLn at h0 ⊢
 by_cases h1:0 < st.2.size
 ·by_cases h2:q < (st.2.size:Int)+1+x.1.size
  ·rw [if_pos h1,if_pos h2] at h0;dsimp only at h0;omega
  ·rw [if_pos h1,if_neg h2] at h0;dsimp only at h0;rw [ByteArray.size_append] at h0;omega
 ·rw [if_neg h1] at h0;dsimp only at h0;omega
theorem lnOk_all (q:Int) (ws:List W30):LnOk (lnSt q ws):=by
 suffices h:∀ (l:List W30) (st:List ByteArray × ByteArray),LnOk st→LnOk (l.foldl (fun st x=>stepLn q st x.1) st) from h ws _ (fun _=>rfl)
 intro l
 induction l with
 | nil=>intro st h;exact h
 | cons x r ih=>intro st _;exact ih _ (lnOk_step q st x)
def lastLn (l:List ByteArray):ByteArray:=l.getD (l.length - 1) eS
theorem out_nil {q:Int} {st:List ByteArray × ByteArray} (hok:LnOk st) (h:(lnOut st).length=0) (x:W30):lnOut (stepLn q st x.1)=lnOut st ++ [x.1]:=by
 obtain ⟨lines,line⟩:=st
 have h0:¬ 0 < line.size:=fun h0=>by simp [lnOut,h0] at h
 have hl:lines=[]:=hok (show line.size=0 by omega)
 subst hl
 have hx:=x.2.1
 simp [stepLn,lnOut,h0,hx]
theorem out_line {st:List ByteArray × ByteArray} (h:(lnOut st).length ≠ 0) (hok:LnOk st):0 < st.2.size∧lnOut st=st.1 ++ [st.2]∧lastLn (lnOut st)=st.2:=by
 obtain ⟨lines,line⟩:=st
 have h0:0 < line.size:=by
  rcases Nat.eq_zero_or_pos line.size with h0 | h0
  ·have hl:lines=[]:=hok h0
   subst hl
   simp [lnOut,h0] at h
  ·exact h0
 have e:lnOut (lines,line)=lines ++ [line]:=by simp [lnOut,h0]
 refine ⟨h0,e,?_⟩
 rw [e]
 simp [lastLn,List.getD]
theorem out_break {q:Int} {st:List ByteArray × ByteArray} (hok:LnOk st) (h:(lnOut st).length ≠ 0) (x:W30) (hq:q < ((lastLn (lnOut st)).size:Int)+1+x.1.size):lnOut (stepLn q st x.1)=lnOut st ++ [x.1]:=by
 obtain ⟨h1,h2,h3⟩:=out_line h hok
 rw [h3] at hq
 have hx:=x.2.1
 have e:stepLn q st x.1=(st.1 ++ [st.2],x.1):=by unfold stepLn;rw [if_pos h1,if_pos hq]
 rw [e,h2]
 simp [lnOut,hx]
theorem out_fits {q:Int} {st:List ByteArray × ByteArray} (hok:LnOk st) (h:(lnOut st).length ≠ 0) (x:W30) (hq:¬ q < ((lastLn (lnOut st)).size:Int)+1+x.1.size):lnOut (stepLn q st x.1)=(lnOut st).set ((lnOut st).length - 1) (lastLn (lnOut st) ++ ⟨#[32]⟩ ++ x.1):=by
 obtain ⟨h1,h2,h3⟩:=out_line h hok
 rw [h3] at hq ⊢
 have hx:=x.2.1
 have e:stepLn q st x.1=(st.1,st.2 ++ ⟨#[32]⟩ ++ x.1):=by unfold stepLn;rw [if_pos h1,if_neg hq]
 have hp:0 < (st.2 ++ ⟨#[32]⟩ ++ x.1).size:=by rw [ByteArray.size_append];omega
 rw [e,h2]
 simp only [lnOut,hp,if_true,List.length_append,List.length_cons,List.length_nil,Nat.add_sub_cancel,Nat.zero_add]
 rw [List.set_append_right _ _ (Nat.le_refl _)]
 simp
theorem out_bound (q:Int) (ws:List W30):(lnOut (lnSt q ws)).length≤ws.length+1∧(lastLn (lnOut (lnSt q ws))).size≤31 * ws.length:=by
 obtain ⟨h1,h2⟩:=lnSt_bound q ws
 constructor
 ·unfold lnOut
  split
  ·simp;omega
  ·omega
 ·rcases Nat.eq_zero_or_pos (lnOut (lnSt q ws)).length with h | h
  ·have:lnOut (lnSt q ws)=[]:=List.eq_nil_of_length_eq_zero h
   rw [this]
   simp [lastLn,eS]
  ·rw [(out_line (by omega) (lnOk_all q ws)).2.2];exact h2
theorem lnSt_take {q:Int} {l:List W30} {k:Nat} (h:k < l.length):lnSt q (l.take (k+1))=stepLn q (lnSt q (l.take k)) l[k].1:=by
 rw [List.take_succ_eq_append_getElem h,lnSt_snoc]
theorem row_owns {w:World} {B:Nat} {v:Value} {l:List ByteArray} (h:RowS w B v l):w.ownsRow B 9 1 v l.length (l.map Value.string):=by
 refine ⟨by simp,?_⟩
 rcases h with ⟨hv,rfl⟩ | ⟨g,cap,cur,hv,hb,hg,h1,h2,h3,h4⟩
 ·exact Or.inl ⟨hv,rfl⟩
 ·refine Or.inr ⟨g,cap,cur,hv,hb,hg,h1,h2,by omega,?_⟩
  apply List.ext_getElem?
  intro i
  rw [Nat.mul_one]
  by_cases hi:i < l.length
  ·rw [List.getElem?_take_of_lt hi,Array.getElem?_toList,h4 i hi]
   simp [List.getD,hi]
  ·rw [List.getElem?_eq_none (by simp;omega),List.getElem?_eq_none (by simp;omega)]
set_option maxRecDepth 100000 in
set_option maxHeartbeats 2000000 in
theorem specTxtLines (s:ByteArray) (hs:s.size≤maxLen) (q:Int) (hq:-9223372036854775808≤q∧q≤9223372036854775807) (w:World) :
  Calls Tryz.prog 95 #[.string s,.int .i64 q] w fun e w'=>∃ v,e=.returned v∧RowS w' w.heap.size v (lnOut (lnSt q (wordsW s)))∧Below w.heap.size w w':=by
 obtain ⟨i0,hi,hz0,hz1,hz2⟩:=info_parts infoLs
 have hwl:=wordsW_len s
 have HW:=Hd (specTxtWords s hs)
 generalize wordsW s=l at HW hwl ⊢
 go_enter Tryz.func95,Tryz.ntmps95
 go_wp2_with fail
 refine (HW.out _).mono ?_
 rintro e w1 ⟨v1,rfl,hv1,hb1⟩
 have V1:=Hd hv1
 have K1:=Hd hb1
 obtain ⟨a1,c1,rfl⟩:=words_form hv1
 have hsz1:=hb1.size
 clear hv1 hb1
 go_wp2_with fail
 go_loopw [6,7] (fun o i W=>∃ k:Nat,k≤l.length∧i=.int .i64 k∧Hid (RowS W w1.heap.size o (lnOut (lnSt q (l.take k))))∧Hid (Below w1.heap.size w1 W)) (fun _ i _=>l.length - (intOf i).toNat)
 case atStart=>exact ⟨0,Nat.zero_le _,rfl,RowS.of_owns (World.ownsRow_made w1 #[] 0 (Nat.le_refl _) (Nat.zero_le _) rfl),k_alloc (Below.refl _ _) _⟩
 case round =>
  obtain ⟨k,hk,rfl,HR,HB⟩:=hrel
  by_cases hlt:k < l.length
  ·obtain ⟨g,cap',e',h1,h2,hx⟩:=wordsAt (ownsRow_keptS V1.out HB.out) hlt
   simp only [Value.slice.injEq,true_and] at e'
   obtain ⟨rfl,rfl⟩:=e'
   have h3:=l[k].2
   have HT:=Hd (lnSt_take (q:=q) hlt)
   obtain ⟨hb1,hb2⟩:=out_bound q (l.take k)
   have hok:=Hd (lnOk_all q (l.take k))
   have htl:(l.take k).length≤30:=by rw [List.length_take];omega
   have HN:=Hd (fun h=>out_nil (q:=q) hok.out h l[k])
   have HK:=Hd (fun h=>out_break (q:=q) hok.out h l[k])
   have HF:=Hd (fun h=>out_fits (q:=q) hok.out h l[k])
   rw [← HT.out] at HN HK HF
   generalize l[k]=x at hx h3 HN HK HF
   generalize hout:lnOut (lnSt q (l.take k))=out at HR HN HK HF hb1 hb2
   clear hout HT hok
   obtain ⟨ao,co,rfl⟩:=HR.out.form
   unfold maxLen at h2
   have hbs:=HB.out.size
   by_cases hn0:out.length=0
   ·have hd:decide ((0:Int) < (out.length:Int))=false:=decide_eq_false (by omega)
    have HE:=Hd (HN.out hn0)
    obtain rfl:out=[]:=List.eq_nil_of_length_eq_zero hn0
    clear hn0 hd HK HF HN
    have hd:decide ((0:Int) < (0:Int))=false:=rfl
    go_wp2_with fail
    go_quiet (fail)
    have hO:(wr.drewN nq).ownsRow w1.heap.size 9 1 (.slice ao 0 co) 0 []:=row_owns HR.out
    go_wp2_with (at_builtin;refine wpList_append_own _ rfl _ _ 100 rfl w1.heap.size 9 i0 (.string ⟨#[]⟩) 1 16 Tryz.underlying100 hi hz0 hz1 hz2 rfl (by decide) _ _ _ rfl (hO.alloc _) ⟨wr.heap.size,0,none⟩ 1 1 [.string x.1] rfl rfl ?c1 ?c2 ?c3 ?c4 ?c5 ?_)
    case c1=>exact cell_one_new (wr.drewN nq) (.string x.1) 9
    case c2=>intro u hu;simp at hu;subst hu;rfl
    case c3=>unfold maxLen;omega
    case c4=>omega
    case c5=>simp;omega
    intro v' w2 hown' hgrow' _
    have HB2:=Hd ((k_alloc (k_drewN HB.out nq) (.cells #[.string x.1] 9)).grown hgrow' (by simp;omega) (fun b hb=>(hO.lt b hb).1))
    have HR2:Hid (RowS w2 w1.heap.size v' (lnOut (lnSt q (l.take (k+1))))):=by
     show RowS _ _ _ _
     rw [HE.out]
     exact RowS.of_owns hown'
    obtain ⟨g',cap',rfl⟩:=Joins.ownsRow_form hown' (by omega)
    clear hown' hgrow' hO HR HB
    go_wp2
    go_roundw
    case rel=>exact ⟨k+1,by omega,by go_num,HR2,HB2⟩
    case measure=>simp [intOf];omega
   ·obtain ⟨m,hm⟩:=Nat.exists_eq_succ_of_ne_zero hn0
    obtain ⟨go,co',e',hgo,hgs,hc1,hc2,hy,hfy⟩:=HR.out.get (i:=out.length - 1) (by omega)
    simp only [Value.slice.injEq,true_and] at e'
    obtain ⟨rfl,rfl⟩:=e'
    have hyl:out.getD (out.length - 1) eS=lastLn out:=rfl
    rw [hyl] at hy
    have hm1:out.length - 1=m:=by omega
    have hm2:out.length=m+1:=hm
    have HR0:=Hd (row_owns HR.out)
    have HRs:=Hd (fun y=>HR.out.set (i:=out.length - 1) (by omega) y)
    have HKo:=Hd (HK.out hn0)
    have HFo:=Hd (HF.out hn0)
    generalize lastLn out=y at hy hb2 HKo HFo
    rw [hm1] at hy hfy HRs HFo
    rw [hm2] at hc1 HR0 HRs
    rw [hm2]
    unfold maxLen at hc2
    have hd:decide ((0:Int) < ((m:Int)+1))=true:=decide_eq_true (by omega)
    by_cases hqq:q < (y.size:Int)+1+x.1.size
    ·have hdq:decide ((y.size:Int)+1+(x.1.size:Int)≤q)=false:=decide_eq_false (by omega)
     have HE:=Hd (HKo.out hqq)
     go_wp2_with fail
     go_quiet (fail)
     have hO:(wr.drewN nq).ownsRow w1.heap.size 9 1 (.slice (some ⟨go,0,none⟩) (m+1) co) (m+1) (out.map Value.string):=HR0.out
     go_wp2_with (at_builtin;refine wpList_append_own _ rfl _ _ 100 rfl w1.heap.size 9 i0 (.string ⟨#[]⟩) 1 16 Tryz.underlying100 hi hz0 hz1 hz2 rfl (by decide) _ _ _ rfl (hO.alloc _) ⟨wr.heap.size,0,none⟩ 1 1 [.string x.1] rfl rfl ?c1 ?c2 ?c3 ?c4 ?c5 ?_)
     case c1=>exact cell_one_new (wr.drewN nq) (.string x.1) 9
     case c2=>intro u hu;simp at hu;subst hu;rfl
     case c3=>unfold maxLen;omega
     case c4=>omega
     case c5=>simp;omega
     intro v' w2 hown' hgrow' _
     have HB2:=Hd ((k_alloc (k_drewN HB.out nq) (.cells #[.string x.1] 9)).grown hgrow' (by simp;omega) (fun b hb=>(hO.lt b hb).1))
     have HR2:Hid (RowS w2 w1.heap.size v' (lnOut (lnSt q (l.take (k+1))))):=by
      show RowS _ _ _ _
      rw [HE.out]
      exact RowS.of_owns (by rw [List.length_append,List.map_append,hm2];exact hown')
     obtain ⟨g',cap',rfl⟩:=Joins.ownsRow_form hown' (by omega)
     clear hown' hgrow' hO HR HB
     go_wp2
     go_roundw
     case rel=>exact ⟨k+1,by omega,by go_num,HR2,HB2⟩
     case measure=>simp [intOf];omega
    ·have hdq:decide ((y.size:Int)+1+(x.1.size:Int)≤q)=true:=decide_eq_true (by omega)
     have HE:=Hd (HFo.out hqq)
     have hz3:¬ 9223372036854775807 < y.size+1:=by omega
     have hz4:¬ 9223372036854775807 < y.size+1+x.1.size:=by omega
     go_wp2_with fail
     go_quiet (fail)
     go_wp2_with fail
     have hy':(wr.drewN nq).cell? ⟨go,m,none⟩=some (.string y):=hy
     have hx':(wr.drewN nq).cell? ⟨g,k,none⟩=some (.string x.1):=hx
     have hf':(wr.drewN nq).frozen? ⟨go,m,none⟩=false:=hfy
     have HB1:=Hd (k_drewN HB.out nq)
     have HR1:Hid (∀ y,RowS ((wr.drewN nq).setCell ⟨go,m,none⟩ (.string y)) w1.heap.size (.slice (some ⟨go,0,none⟩) (m+1) co) (out.set m y)):=HRs
     clear hy hx hfy HR HRs HR0 HN HK HF HKo HFo HB
     generalize wr.drewN nq=W1 at hy' hx' hf' HB1 HR1 ⊢
     go_region
     all_goals
      go_wp2
      go_roundw
      case rel=>exact ⟨k+1,by omega,by go_num,by rw [HE.out];exact HR1.out _,Below.drew ((HB1.out).setCell (p:=⟨go,m,none⟩) hgo _)⟩
      case measure=>simp [intOf];omega
  ·obtain rfl:k=l.length:=by omega
   rw [List.take_length] at HR
   obtain ⟨ao,co,rfl⟩:=HR.out.form
   go_wp2
   go_ret
   exact ⟨_,rfl,HR.out.base hsz1,k_trans K1.out HB.out⟩
def joinL:List ByteArray→ByteArray
 | []=>⟨#[]⟩
 | [x]=>x
 | x :: y :: r=>x ++ ⟨#[32]⟩ ++ joinL (y :: r)
def LeLn (a b:List ByteArray × ByteArray):Prop:=(lnOut a).length < (lnOut b).length∨(lnOut a).length=(lnOut b).length∧a.2.size≤b.2.size
theorem cnt_nil {q:Int} {st:List ByteArray × ByteArray} (h:¬ 0 < st.2.size) (x:W30):(lnOut (stepLn q st x.1)).length=(lnOut st).length+1∧(stepLn q st x.1).2.size=x.1.size:=by
 have hx:=x.2.1
 have e:stepLn q st x.1=(st.1,x.1):=by unfold stepLn;rw [if_neg h]
 rw [e]
 simp [lnOut,h,hx]
theorem cnt_break {q:Int} {st:List ByteArray × ByteArray} (h:0 < st.2.size) (x:W30) (hq:q < (st.2.size:Int)+1+x.1.size):(lnOut (stepLn q st x.1)).length=(lnOut st).length+1∧(stepLn q st x.1).2.size=x.1.size:=by
 have hx:=x.2.1
 have e:stepLn q st x.1=(st.1 ++ [st.2],x.1):=by unfold stepLn;rw [if_pos h,if_pos hq]
 rw [e]
 simp [lnOut,h,hx]
theorem cnt_fits {q:Int} {st:List ByteArray × ByteArray} (h:0 < st.2.size) (x:W30) (hq:¬ q < (st.2.size:Int)+1+x.1.size):(lnOut (stepLn q st x.1)).length=(lnOut st).length∧(stepLn q st x.1).2.size=st.2.size+1+x.1.size:=by
 have e:stepLn q st x.1=(st.1,st.2 ++ ⟨#[32]⟩ ++ x.1):=by unfold stepLn;rw [if_pos h,if_neg hq]
 have hz:(st.2 ++ ⟨#[32]⟩ ++ x.1).size=st.2.size+1+x.1.size:=by rw [ByteArray.size_append,ByteArray.size_append];rfl
 rw [e]
 refine ⟨?_,hz⟩
 have hp:0 < (st.2 ++ ⟨#[32]⟩ ++ x.1).size:=by omega
 simp only [lnOut,hp,h,if_true,List.length_append,List.length_cons,List.length_nil]
theorem cnt_zero {st:List ByteArray × ByteArray} (hok:LnOk st):(¬ 0 < st.2.size→(lnOut st).length=0)∧(0 < st.2.size→0 < (lnOut st).length):=by
 refine ⟨fun h=>?_,fun h=>?_⟩
 ·have:st.1=[]:=hok (by omega)
  simp [lnOut,h,this]
 ·simp [lnOut,h]
theorem wider_step {p q:Int} (hpq:p≤q) {a b:List ByteArray × ByteArray} (ha:LnOk a) (hb:LnOk b) (h:LeLn a b) (x:W30):LeLn (stepLn q a x.1) (stepLn p b x.1):=by
 have hx:=x.2.1
 obtain ⟨za,za'⟩:=cnt_zero ha
 obtain ⟨zb,zb'⟩:=cnt_zero hb
 unfold LeLn at h ⊢
 by_cases h1:0 < a.2.size
 ·have c1:=za' h1
  have h2:0 < b.2.size:=by
   by_cases h2:0 < b.2.size
   ·exact h2
   ·have:=zb h2;omega
  by_cases qa:q < (a.2.size:Int)+1+x.1.size
  ·obtain ⟨e1,e2⟩:=cnt_break h1 x qa
   by_cases qb:p < (b.2.size:Int)+1+x.1.size
   ·obtain ⟨e3,e4⟩:=cnt_break h2 x qb;omega
   ·obtain ⟨e3,e4⟩:=cnt_fits h2 x qb;omega
  ·obtain ⟨e1,e2⟩:=cnt_fits h1 x qa
   by_cases qb:p < (b.2.size:Int)+1+x.1.size
   ·obtain ⟨e3,e4⟩:=cnt_break h2 x qb;omega
   ·obtain ⟨e3,e4⟩:=cnt_fits h2 x qb;omega
 ·have c1:=za h1
  obtain ⟨e1,e2⟩:=cnt_nil (q:=q) h1 x
  by_cases h2:0 < b.2.size
  ·have:=zb' h2
   by_cases qb:p < (b.2.size:Int)+1+x.1.size
   ·obtain ⟨e3,e4⟩:=cnt_break h2 x qb;omega
   ·obtain ⟨e3,e4⟩:=cnt_fits h2 x qb;omega
  ·obtain ⟨e3,e4⟩:=cnt_nil (q:=p) h2 x
   have:=zb h2
   omega
theorem wider {p q:Int} (hpq:p≤q) (ws:List W30):(lnOut (lnSt q ws)).length≤(lnOut (lnSt p ws)).length:=by
 suffices h:∀ (l:List W30) (a b:List ByteArray × ByteArray),LnOk a→LnOk b→LeLn a b→LeLn (l.foldl (fun st x=>stepLn q st x.1) a) (l.foldl (fun st x=>stepLn p st x.1) b) by
  have:=h ws ([],⟨#[]⟩) ([],⟨#[]⟩) (fun _=>rfl) (fun _=>rfl) (Or.inr ⟨rfl,Nat.le_refl _⟩)
  unfold LeLn at this
  have e1:lnSt q ws=ws.foldl (fun st x=>stepLn q st x.1) ([],⟨#[]⟩):=rfl
  have e2:lnSt p ws=ws.foldl (fun st x=>stepLn p st x.1) ([],⟨#[]⟩):=rfl
  rw [e1,e2]
  omega
 intro l
 induction l with
 | nil=>intro a b _ _ h;exact h
 | cons x r ih=>intro a b ha hb h;exact ih _ _ (lnOk_step q a x) (lnOk_step p b x) (wider_step hpq ha hb h x)
theorem line_le {q:Int} {n:Nat} (hq:q≤(n:Int)) (ws:List W30) (hw:∀ x ∈ ws,x.1.size≤n):∀ y ∈ lnOut (lnSt q ws),y.size≤n:=by
 suffices h:∀ (l:List W30) (st:List ByteArray × ByteArray),(∀ x ∈ l,x.1.size≤n)→(∀ y ∈ st.1,y.size≤n)→st.2.size≤n→(∀ y ∈ (l.foldl (fun st x=>stepLn q st x.1) st).1,y.size≤n)∧(l.foldl (fun st x=>stepLn q st x.1) st).2.size≤n by
  obtain ⟨h1,h2⟩:=h ws ([],⟨#[]⟩) hw (fun y hy=>by cases hy) (Nat.zero_le _)
  intro y hy
  unfold lnOut at hy
  split at hy
  ·rcases List.mem_append.1 hy with hy | hy
   ·exact h1 y hy
   ·simp at hy;subst hy;exact h2
  ·exact h1 y hy
 intro l
 induction l with
 | nil=>intro st _ h1 h2;exact ⟨h1,h2⟩
 | cons x r ih =>
  intro st hx h1 h2
  have hx1:=hx x (List.mem_cons_self ..)
  refine ih _ (fun y hy=>hx y (List.mem_cons_of_mem _ hy)) ?_ ?_
  ·show ∀ y ∈ (stepLn q st x.1).1,y.size≤n
   unfold stepLn
   by_cases c1:0 < st.2.size
   ·by_cases c2:q < (st.2.size:Int)+1+x.1.size
    ·rw [if_pos c1,if_pos c2]
     intro y hy
     rcases List.mem_append.1 hy with hy | hy
     ·exact h1 y hy
     ·simp at hy;subst hy;exact h2
    ·rw [if_pos c1,if_neg c2];exact h1
   ·rw [if_neg c1];exact h1
  ·show (stepLn q st x.1).2.size≤n
   by_cases c1:0 < st.2.size
   ·by_cases c2:q < (st.2.size:Int)+1+x.1.size
    ·rw [(cnt_break c1 x c2).2];exact hx1
    ·rw [(cnt_fits c1 x c2).2];omega
   ·rw [(cnt_nil (q:=q) c1 x).2];exact hx1
def LeL (a b:List Int):Prop:=a.length=b.length∧∀ i,i < a.length→a.getD i 0≤b.getD i 0
theorem LeL.refl (a:List Int):LeL a a:=⟨rfl,fun _ _=>Int.le_refl _⟩
theorem LeL.trans {a b c:List Int} (h:LeL a b) (k:LeL b c):LeL a c:=⟨h.1.trans k.1,fun i hi=>Int.le_trans (h.2 i hi) (k.2 i (by rw [← h.1];exact hi))⟩
theorem LeL.sub {a b:List Int} (h:LeL a b) {c m:Nat} (hc:c+m≤a.length):LeL (subL a c m) (subL b c m):=by
 have hb:c+m≤b.length:=by rw [← h.1];exact hc
 refine ⟨by rw [subL_len hc,subL_len hb],fun i hi=>?_⟩
 rw [subL_len hc] at hi
 rw [subL_get hc hi,subL_get hb hi]
 exact h.2 _ (by omega)
theorem sum_zip:∀ (a b:List Int),a.length=b.length→(List.zipWith (·+·) a b).sum=a.sum+b.sum
 | [],[],_=>by simp
 | [],_ :: _,h=>absurd h (by simp)
 | _ :: _,[],h=>absurd h (by simp)
 | x :: a,y :: b,h=>by
  rw [List.zipWith_cons_cons,List.sum_cons,List.sum_cons,List.sum_cons,sum_zip a b (by simpa using h)]
  omega
def hasV (l:List Int) (gap:Int) (x:GC):Int:=(subL l x.col.toNat x.cols.toNat).sum+gap * (x.cols - 1)
def fixTo (ps:List (Int × Int)) (l:List Int):Nat→List Int
 | 0=>l
 | k+1=>if (sd ps k).1=1 then (fixTo ps l k).set k (max ((fixTo ps l k).getD k 0) (sd ps k).2) else fixTo ps l k
theorem fixTo_len (ps:List (Int × Int)) (l:List Int):∀ k,(fixTo ps l k).length=l.length
 | 0=>rfl
 | k+1=>by rw [fixTo];split;rw [List.length_set];exact fixTo_len ps l k;exact fixTo_len ps l k
theorem fixTo_out (ps:List (Int × Int)) (l:List Int) {i:Nat}:∀ k,k≤i→(fixTo ps l k).getD i 0=l.getD i 0
 | 0,_=>rfl
 | k+1,h=>by
  rw [fixTo]
  split
  ·rw [← fixTo_out ps l (i:=i) k (by omega)]
   simp only [List.getD,List.getElem?_set_ne (show k ≠ i by omega)]
  ·exact fixTo_out ps l k (by omega)
def fixV (ps:List (Int × Int)) (k:Nat) (x:Int):Int:=if (sd ps k).1=1 then max x (sd ps k).2 else x
theorem fixTo_in (ps:List (Int × Int)) (l:List Int) {i:Nat} (hi:i < l.length):∀ k,i < k→(fixTo ps l k).getD i 0=fixV ps i (l.getD i 0)
 | k+1,h=>by
  rw [fixTo]
  by_cases e:i=k
  ·subst e
   rw [fixTo_out ps l i (Nat.le_refl _)]
   have hl:i < (fixTo ps l i).length:=by rw [fixTo_len];exact hi
   unfold fixV
   split
   ·simp [List.getD,hl]
   ·exact fixTo_out ps l i (Nat.le_refl _)
  ·rw [← fixTo_in ps l hi k (by omega)]
   split
   ·simp only [List.getD,List.getElem?_set_ne (show k ≠ i by omega)]
   ·rfl
def leastP (t:T) (x:GC):Int:=(leastOf (wordsW (textOf t x)):Nat)
def colN (t:T):Nat:=(gOf t).cols.toNat
def needL (t:T) (p:GC→Int):List Int:=needTo p t.gap (gOf t).cells (zeroL (colN t)) 4
def leastL (t:T):List Int:=fixTo t.cols (needL t (leastP t)) (colN t)
theorem needL_len (t:T) (p:GC→Int):(needL t p).length=colN t:=by unfold needL;rw [needTo_len];simp [zeroL]
theorem leastL_len (t:T):(leastL t).length=colN t:=by unfold leastL;rw [fixTo_len,needL_len]
theorem colN_of {t:T} {C:Nat} (h:(gOf t).cols=C):colN t=C:=by unfold colN;rw [h];exact Int.toNat_natCast C
theorem needL_up {t:T} (hD:Drawn t) {p:GC→Int} (hp:∀ x,p x≤30):UpB (needL t p) 4800:=by
 obtain ⟨h40,C,hgc,hC,hcel⟩:=cel_of hD
 unfold needL
 rw [colN_of hgc]
 exact need_up hcel h40 (by simp [zeroL]) hp (zero_up _) 4 (by omega)
theorem sd_small {t:T} {k:Nat} (hk:k < colN t):(sd t.cols k).1=1→0≤(sd t.cols k).2∧(sd t.cols k).2≤60:=by
 intro h1
 cases h:tblB t with
 | false=>unfold colN at hk;rw [gOf_no h] at hk;exact absurd hk (Nat.not_lt_zero _)
 | true =>
  simp only [tblB,colsB,Bool.and_eq_true,List.all_eq_true] at h
  by_cases hl:k < t.cols.length
  ·rw [sd_yes hl] at h1 ⊢
   have:=h.2.2.2.1.2 (t.cols.getD k (0,0)) (by rw [show t.cols.getD k (0,0)=t.cols[k] by simp [List.getD,hl]];exact List.getElem_mem hl)
   simp only [colB,decide_eq_true_eq] at this
   omega
  ·rw [sd_no (inB_false (by omega))] at h1
   simp at h1
theorem leastL_get {t:T} {k:Nat} (hk:k < colN t):(leastL t).getD k 0=fixV t.cols k ((needL t (leastP t)).getD k 0):=by
 unfold leastL
 exact fixTo_in _ _ (by rw [needL_len];exact hk) _ hk
theorem leastP_le (t:T) (x:GC):0≤leastP t x∧leastP t x≤30:=by
 unfold leastP
 have:=leastOf_le (wordsW (textOf t x))
 omega
theorem leastL_up {t:T} (hD:Drawn t):UpB (leastL t) 5000:=by
 intro i hi
 rw [leastL_len] at hi
 rw [leastL_get hi]
 have h1:=needL_up hD (fun x=>(leastP_le t x).2) i (by rw [needL_len];exact hi)
 have h2:=sd_small hi
 unfold fixV
 split
 ·have:=h2 (by assumption);omega
 ·omega
def maxTo (a b:List Int):Nat→List Int
 | 0=>a
 | k+1=>(maxTo a b k).set k (max (a.getD k 0) (b.getD k 0))
theorem maxTo_len (a b:List Int):∀ k,(maxTo a b k).length=a.length
 | 0=>rfl
 | k+1=>by rw [maxTo,List.length_set];exact maxTo_len a b k
theorem maxTo_out (a b:List Int) {i:Nat}:∀ k,k≤i→(maxTo a b k).getD i 0=a.getD i 0
 | 0,_=>rfl
 | k+1,h=>by
  rw [maxTo,← maxTo_out a b (i:=i) k (by omega)]
  simp only [List.getD,List.getElem?_set_ne (show k ≠ i by omega)]
theorem maxTo_in (a b:List Int) {i:Nat} (hi:i < a.length):∀ k,i < k→(maxTo a b k).getD i 0=max (a.getD i 0) (b.getD i 0)
 | k+1,h=>by
  rw [maxTo]
  by_cases e:i=k
  ·subst e
   have hl:i < (maxTo a b i).length:=by rw [maxTo_len];exact hi
   simp only [List.getD,List.getElem?_set_self hl,Option.getD_some]
  ·rw [← maxTo_in a b hi k (by omega)]
   simp only [List.getD,List.getElem?_set_ne (show k ≠ i by omega)]
def wishP (t:T) (x:GC):Int:=(wishOf (textOf t x):Nat)
theorem wishP_le (t:T) (x:GC):0≤wishP t x∧wishP t x≤30:=by
 unfold wishP
 have:=wishOf_le (textOf t x)
 omega
def wishL (t:T):List Int:=maxTo (needL t (wishP t)) (leastL t) (colN t)
theorem wishL_len (t:T):(wishL t).length=colN t:=by unfold wishL;rw [maxTo_len,needL_len]
theorem wishL_get {t:T} {k:Nat} (hk:k < colN t):(wishL t).getD k 0=max ((needL t (wishP t)).getD k 0) ((leastL t).getD k 0):=by
 unfold wishL
 exact maxTo_in _ _ (by rw [needL_len];exact hk) _ hk
theorem wishL_up {t:T} (hD:Drawn t):UpB (wishL t) 5000:=by
 intro i hi
 rw [wishL_len] at hi
 rw [wishL_get hi]
 have h1:=needL_up hD (fun x=>(wishP_le t x).2) i (by rw [needL_len];exact hi)
 have h2:=leastL_up hD i (by rw [leastL_len];exact hi)
 omega
def kindP (t:T) (q:Int) (k:Nat):Bool:=decide ((sd t.cols k).1=q)
def restV (t:T) (width:Int):Int:=width - ((leastL t).sum+t.gap * ((colN t:Int) - 1))
def want1 (t:T) (width:Int) (l:List Int):List Int:=(List.range l.length).map (fun k=>if kindP t 2 k=true then max 0 (width * (sd t.cols k).2 / 100 - l.getD k 0) else 0)
def want2 (t:T) (l:List Int):List Int:=(List.range l.length).map (fun k=>if kindP t 0 k=true then max 0 ((wishL t).getD k 0 - l.getD k 0) else 0)
def out1 (t:T) (width:Int):List Int:=addL (leastL t) (upToL (restV t width) (want1 t width (leastL t)))
def left1 (t:T) (width:Int):Int:=upToN (restV t width) (want1 t width (leastL t))
def out2 (t:T) (width:Int):List Int:=addL (out1 t width) (upToL (left1 t width) (want2 t (out1 t width)))
def left2 (t:T) (width:Int):Int:=upToN (left1 t width) (want2 t (out1 t width))
def widL (t:T) (width:Int):List Int :=
 if restV t width≤0 then leastL t
 else if 0 < (selN (kindP t 0) (colN t)).length then addL (out2 t width) (shareL (left2 t width) (oneL (kindP t 0) (colN t)))
 else if 0 < (selN (kindP t 2) (colN t)).length then addL (out2 t width) (shareL (left2 t width) (oneL (kindP t 2) (colN t)))
 else out2 t width
theorem addL_len {a b:List Int} (h:b.length=a.length):(addL a b).length=a.length:=by unfold addL;rw [List.length_zipWith,h];omega
theorem addL_sum {a b:List Int} (h:b.length=a.length):(addL a b).sum=a.sum+b.sum:=sum_zip a b h.symm
theorem addL_get {a b:List Int} (h:b.length=a.length) {i:Nat} (hi:i < a.length):(addL a b).getD i 0=a.getD i 0+b.getD i 0:=by
 have hb:i < b.length:=by omega
 have hz:i < (List.zipWith (·+·) a b).length:=by rw [List.length_zipWith];omega
 unfold addL
 simp only [List.getD,List.getElem?_eq_getElem hi,List.getElem?_eq_getElem hb,List.getElem?_eq_getElem hz,Option.getD_some,List.getElem_zipWith]
theorem want1_len (t:T) (width:Int) (l:List Int):(want1 t width l).length=l.length:=by simp [want1]
theorem want2_len (t:T) (l:List Int):(want2 t l).length=l.length:=by simp [want2]
theorem want1_get {t:T} {width:Int} {l:List Int} {k:Nat} (h:k < l.length):(want1 t width l).getD k 0=if kindP t 2 k=true then max 0 (width * (sd t.cols k).2 / 100 - l.getD k 0) else 0:=by simp [want1,List.getD,h]
theorem want2_get {t:T} {l:List Int} {k:Nat} (h:k < l.length):(want2 t l).getD k 0=if kindP t 0 k=true then max 0 ((wishL t).getD k 0 - l.getD k 0) else 0:=by simp [want2,List.getD,h]
theorem ok_of {t:Int} {l:List Int} (ht:0≤t∧t≤100000) (hl:l.length≤100) (h:∀ i,i < l.length→0≤l.getD i 0∧l.getD i 0≤100000):shrOkB t l=true:=by
 simp only [shrOkB,Bool.and_eq_true,decide_eq_true_eq,List.all_eq_true]
 refine ⟨⟨by simp only [wtB,decide_eq_true_eq];exact ht,hl⟩,fun x hx=>?_⟩
 obtain ⟨i,hi,rfl⟩:=List.mem_iff_getElem.1 hx
 have:=h i hi
 rw [show l.getD i 0=l[i] by simp [List.getD,hi]] at this
 simp only [wtB,decide_eq_true_eq]
 exact this
theorem upTo_total {t:Int} {l:List Int} (hok:shrOkB t l=true):(upToL t l).length=l.length∧(upToL t l).sum+upToN t l=t∧0≤upToN t l∧upToN t l≤t∧∀ i,i < l.length→0≤(upToL t l).getD i 0∧(upToL t l).getD i 0≤l.getD i 0:=by
 obtain ⟨ht,hlen,hw⟩:=shrOk_parts hok
 have hg:∀ i,i < l.length→0≤l.getD i 0:=fun i hi=>(wt_get hw hi).1
 by_cases hs:l.sum≤t
 ·rw [(upTo_all hok hs).1,(upTo_all hok hs).2]
  have h0:0≤l.sum:=(sum_bound hw).1
  exact ⟨rfl,by omega,by omega,by omega,fun i hi=>⟨hg i hi,Int.le_refl _⟩⟩
 ·rw [(upTo_share hok hs).1,(upTo_share hok hs).2]
  have hpos:0 < l.length:=by
   cases l with
   | nil=>simp at hs;omega
   | cons _ _=>simp
  exact ⟨shareL_len hok,by rw [share_sum hok hpos];omega,Int.le_refl _,ht.1,fun i hi=>share_upto hok (by omega) hi⟩
theorem sd_kind {t:T} {k:Nat} (hk:k < colN t):((sd t.cols k).1=0)∨((sd t.cols k).1=1∧0≤(sd t.cols k).2∧(sd t.cols k).2≤60)∨((sd t.cols k).1=2∧1≤(sd t.cols k).2∧(sd t.cols k).2≤100):=by
 cases h:tblB t with
 | false=>unfold colN at hk;rw [gOf_no h] at hk;exact absurd hk (Nat.not_lt_zero _)
 | true =>
  simp only [tblB,colsB,Bool.and_eq_true,List.all_eq_true] at h
  by_cases hl:k < t.cols.length
  ·rw [sd_yes hl]
   have:=h.2.2.2.1.2 (t.cols.getD k (0,0)) (by rw [show t.cols.getD k (0,0)=t.cols[k] by simp [List.getD,hl]];exact List.getElem_mem hl)
   simp only [colB,decide_eq_true_eq] at this
   omega
  ·rw [sd_no (inB_false (by omega))]
   exact .inl rfl
theorem part_small {width n:Int} (hw:0≤width∧width≤300) (hn:1≤n∧n≤100):0≤width * n / 100∧width * n / 100≤300:=by
 have h1:0≤width * n:=Int.mul_nonneg hw.1 (by omega)
 have h2:width * n≤300 * 100:=Int.mul_le_mul hw.2 hn.2 (by omega) (by omega)
 omega
theorem wid_steps {t:T} (hD:Drawn t) (hok:tblB t=true) {width:Int} (hw:0≤width∧width≤300) (hr:0 < restV t width) :
  shrOkB (restV t width) (want1 t width (leastL t))=true∧shrOkB (left1 t width) (want2 t (out1 t width))=true∧(0≤left2 t width∧left2 t width≤300)∧(out1 t width).length=colN t∧(out2 t width).length=colN t∧(out2 t width).sum+left2 t width=(leastL t).sum+restV t width ∧
  (∀ k,k < colN t→(leastL t).getD k 0≤(out1 t width).getD k 0∧(out1 t width).getD k 0≤(out2 t width).getD k 0∧(kindP t 2 k=false→(out1 t width).getD k 0=(leastL t).getD k 0)∧(kindP t 0 k=false→(out2 t width).getD k 0=(out1 t width).getD k 0)):=by
 obtain ⟨_,C,hgc,hC,hcel⟩:=cel_of hD
 have hCN:=colN_of hgc
 have hlen:=leastL_len t
 have hup:=leastL_up hD
 have hsb:=sum_upB (l:=leastL t) (B:=5000) (fun x hx=>hup.mem hx)
 have hC1:1≤colN t:=by
  have h1:(gOf t).cols=colsOf (max 1 (t.cols.length:Int)) (gridOf t):=by rw [gOf_ok hok]
  have h2:=colsOf_ge (gridOf t) (max 1 (t.cols.length:Int))
  unfold colN
  omega
 have hg:0≤t.gap∧t.gap≤3:=by
  simp only [tblB,inB,Bool.and_eq_true,decide_eq_true_eq] at hok
  exact hok.2.2.1
 have hgap:0≤t.gap * ((colN t:Int) - 1):=Int.mul_nonneg hg.1 (by omega)
 have hr300:restV t width≤300:=by unfold restV;omega
 have ok1:shrOkB (restV t width) (want1 t width (leastL t))=true:=ok_of (by omega) (by rw [want1_len,hlen];omega) (fun i hi=>by
  rw [want1_len] at hi
  rw [want1_get hi]
  have hu:=hup i hi
  split
  ·rename_i hp
   have hk:=sd_kind (t:=t) (k:=i) (by rw [← hlen];exact hi)
   simp only [kindP,decide_eq_true_eq] at hp
   have:=part_small hw (n:=(sd t.cols i).2) (by omega)
   omega
  ·omega)
 obtain ⟨l1,s1,n1,m1,e1⟩:=upTo_total ok1
 rw [want1_len] at l1 e1
 have ho1:(out1 t width).length=colN t:=by unfold out1;rw [addL_len l1,hlen]
 have g1:∀ k,k < colN t→(out1 t width).getD k 0=(leastL t).getD k 0+(upToL (restV t width) (want1 t width (leastL t))).getD k 0:=fun k hk=>by unfold out1;exact addL_get l1 (by rw [hlen];exact hk)
 have hl1:0≤left1 t width∧left1 t width≤300:=by unfold left1;omega
 have ok2:shrOkB (left1 t width) (want2 t (out1 t width))=true:=ok_of (by omega) (by rw [want2_len,ho1];omega) (fun i hi=>by
  rw [want2_len] at hi
  rw [want2_get hi]
  have hi':i < colN t:=by rw [← ho1];exact hi
  have hwu:=wishL_up hD i (by rw [wishL_len];exact hi')
  have h3:=g1 i hi'
  have h4:=hup i (by rw [hlen];exact hi')
  have h5:=e1 i (by rw [hlen];exact hi')
  split <;> omega)
 obtain ⟨l2,s2,n2,m2,e2⟩:=upTo_total ok2
 rw [want2_len] at l2 e2
 have ho2:(out2 t width).length=colN t:=by unfold out2;rw [addL_len l2,ho1]
 have g2:∀ k,k < colN t→(out2 t width).getD k 0=(out1 t width).getD k 0+(upToL (left1 t width) (want2 t (out1 t width))).getD k 0:=fun k hk=>by unfold out2;exact addL_get l2 (by rw [ho1];exact hk)
 refine ⟨ok1,ok2,by unfold left2;omega,ho1,ho2,?_,fun k hk=>?_⟩
 ·have a1:(out1 t width).sum=(leastL t).sum+(upToL (restV t width) (want1 t width (leastL t))).sum:=by unfold out1;exact addL_sum l1
  have a2:(out2 t width).sum=(out1 t width).sum+(upToL (left1 t width) (want2 t (out1 t width))).sum:=by unfold out2;exact addL_sum l2
  have a3:left1 t width=upToN (restV t width) (want1 t width (leastL t)):=rfl
  have a4:left2 t width=upToN (left1 t width) (want2 t (out1 t width)):=rfl
  rw [a2,a1,a4]
  omega
 ·have b1:=e1 k (by rw [hlen];exact hk)
  have b2:=e2 k (by rw [ho1];exact hk)
  rw [want1_get (by rw [hlen];exact hk)] at b1
  rw [want2_get (by rw [ho1];exact hk)] at b2
  have c1:=g1 k hk
  have c2:=g2 k hk
  refine ⟨by omega,by omega,fun h=>?_,fun h=>?_⟩
  ·rw [if_neg (by rw [h];simp)] at b1
   omega
  ·rw [if_neg (by rw [h];simp)] at b2
   omega
theorem oneL_sum {P:Nat→Bool} {n:Nat}:(oneL P n).sum=((selN P n).length:Int):=by
 have hz:∀ i,i < (oneL P n).length→P i=false→(oneL P n).getD i 0=0:=fun i hi hP=>by
  rw [oneL_len] at hi
  rw [oneL_get hi,if_neg (by rw [hP];simp)]
 have:=selL_sum (l:=oneL P n) (P:=P) (oneL P n).length (Nat.le_refl _) hz
 rw [sumTo_all,oneL_len,sel_one,sum_ones] at this
 exact this.symm
theorem selN_none {P:Nat→Bool} {n:Nat} (h:¬ 0 < (selN P n).length) {k:Nat} (hk:k < n):P k=false:=by
 cases hP:P k with
 | false=>rfl
 | true =>
  have:k ∈ selN P n:=by unfold selN;rw [List.mem_filter];exact ⟨List.mem_range.2 hk,hP⟩
  exact absurd (List.length_pos_of_mem this) h
theorem last_share {P:Nat→Bool} {n:Nat} {t:Int} {l:List Int} (hl:l.length=n) (hn:n≤100) (ht:0≤t∧t≤300) (h0:0 < (selN P n).length) :
  (addL l (shareL t (oneL P n))).length=n∧(addL l (shareL t (oneL P n))).sum=l.sum+t∧∀ k,k < n→l.getD k 0≤(addL l (shareL t (oneL P n))).getD k 0∧(P k=false→(addL l (shareL t (oneL P n))).getD k 0=l.getD k 0):=by
 have hok:=oneL_ok P (n:=n) (t:=t) (by omega) hn
 have hs:=shareL_len hok
 rw [oneL_len] at hs
 have hpos:0 < n:=by
  have:=(selN_get h0).1
  omega
 refine ⟨by rw [addL_len (by rw [hs,hl]),hl],by rw [addL_sum (by rw [hs,hl]),share_sum hok (by rw [oneL_len];exact hpos)],fun k hk=>?_⟩
 rw [addL_get (by rw [hs,hl]) (by rw [hl];exact hk)]
 have h1:=shareL_small (t:=t) (l:=oneL P n) k (by rw [hs];exact hk)
 refine ⟨by omega,fun hP=>?_⟩
 rw [share_zero hok (by rw [oneL_sum];omega) (by rw [oneL_len];exact hk) (by rw [oneL_get hk,if_neg (by rw [hP];simp)])]
 omega
def allFix (t:T):Bool:=(List.range (colN t)).all (fun k=>kindP t 1 k)
theorem wid_facts {t:T} (hD:Drawn t) (hok:tblB t=true) {width:Int} (hw:0≤width∧width≤300) :
  (widL t width).length=colN t∧(widL t width).sum+t.gap * ((colN t:Int) - 1)=(if width < (leastL t).sum+t.gap * ((colN t:Int) - 1)∨allFix t=true then (leastL t).sum+t.gap * ((colN t:Int) - 1) else width) ∧
  ∀ k,k < colN t→(leastL t).getD k 0≤(widL t width).getD k 0∧(kindP t 1 k=true→(widL t width).getD k 0=(leastL t).getD k 0):=by
 obtain ⟨_,C,hgc,hC,hcel⟩:=cel_of hD
 have hCN:=colN_of hgc
 have hk1:∀ k,kindP t 1 k=true→kindP t 0 k=false∧kindP t 2 k=false:=fun k h=>by
  simp only [kindP,decide_eq_true_eq] at h
  simp [kindP,h]
 by_cases hr:restV t width≤0
 ·have e:widL t width=leastL t:=by unfold widL;rw [if_pos hr]
  rw [e]
  refine ⟨leastL_len t,?_,fun k _=>⟨Int.le_refl _,fun _=>rfl⟩⟩
  unfold restV at hr
  split
  ·rfl
  ·rename_i hn
   have:¬ width < (leastL t).sum+t.gap * ((colN t:Int) - 1):=fun h=>hn (.inl h)
   omega
 ·obtain ⟨_,_,hl2,_,ho2,hsum,hk⟩:=wid_steps hD hok hw (by omega)
  have hrr:restV t width=width - ((leastL t).sum+t.gap * ((colN t:Int) - 1)):=rfl
  have hnl:¬ width < (leastL t).sum+t.gap * ((colN t:Int) - 1):=by omega
  by_cases h0:0 < (selN (kindP t 0) (colN t)).length
  ·have e:widL t width=addL (out2 t width) (shareL (left2 t width) (oneL (kindP t 0) (colN t))):=by unfold widL;rw [if_neg hr,if_pos h0]
   obtain ⟨a1,a2,a3⟩:=last_share ho2 (by omega) hl2 h0
   have hnf:¬ allFix t=true:=fun h=>by
    have hg:=selN_get h0
    have:=List.all_eq_true.1 h _ (List.mem_range.2 hg.1)
    have:=(hk1 _ this).1
    rw [hg.2] at this
    cases this
   rw [e]
   refine ⟨a1,?_,fun k hkk=>?_⟩
   ·rw [if_neg (by rintro (h | h);exact hnl h;exact hnf h),a2]
    omega
   ·have b1:=a3 k hkk
    have b2:=hk k hkk
    refine ⟨by omega,fun h=>?_⟩
    have c:=hk1 k h
    rw [b1.2 c.1,b2.2.2.2 c.1,b2.2.2.1 c.2]
  ·by_cases h2:0 < (selN (kindP t 2) (colN t)).length
   ·have e:widL t width=addL (out2 t width) (shareL (left2 t width) (oneL (kindP t 2) (colN t))):=by unfold widL;rw [if_neg hr,if_neg h0,if_pos h2]
    obtain ⟨a1,a2,a3⟩:=last_share ho2 (by omega) hl2 h2
    have hnf:¬ allFix t=true:=fun h=>by
     have hg:=selN_get h2
     have:=List.all_eq_true.1 h _ (List.mem_range.2 hg.1)
     have:=(hk1 _ this).2
     rw [hg.2] at this
     cases this
    rw [e]
    refine ⟨a1,?_,fun k hkk=>?_⟩
    ·rw [if_neg (by rintro (h | h);exact hnl h;exact hnf h),a2]
     omega
    ·have b1:=a3 k hkk
     have b2:=hk k hkk
     refine ⟨by omega,fun h=>?_⟩
     have c:=hk1 k h
     rw [b1.2 c.2,b2.2.2.2 c.1,b2.2.2.1 c.2]
   ·have e:widL t width=out2 t width:=by unfold widL;rw [if_neg hr,if_neg h0,if_neg h2]
    have hfx:allFix t=true:=List.all_eq_true.2 (fun k hkr=>by
     have hkk:=List.mem_range.1 hkr
     have n0:=selN_none h0 hkk
     have n2:=selN_none h2 hkk
     have:=sd_kind hkk
     simp only [kindP,decide_eq_false_iff_not] at n0 n2
     simp only [kindP,decide_eq_true_eq]
     omega)
    have heq:out2 t width=leastL t:=by
     apply List.ext_getElem (by rw [ho2,leastL_len])
     intro i h1 h3
     have hi:i < colN t:=by rw [ho2] at h1;exact h1
     have b:=hk i hi
     have:=(b.2.2.2 (selN_none h0 hi)).trans (b.2.2.1 (selN_none h2 hi))
     simpa [List.getD,h1,h3] using this
    rw [e,heq]
    refine ⟨leastL_len t,by rw [if_pos (.inr hfx)],fun k _=>⟨Int.le_refl _,fun _=>rfl⟩⟩
def widT (t:T) (width:Int):List Int:=if (tblB t && inB width 0 300)=true then widL t width else []
def lnsOf (t:T) (l:List Int) (x:GC):List ByteArray:=lnOut (lnSt (cellV l t.gap x) (wordsW (textOf t x)))
def linesL (t:T) (l:List Int) (gs:List GC):List (List ByteArray):=gs.map (lnsOf t l)
def linesT (t:T) (width:Int):List (List ByteArray):=if (tblB t && inB width 0 300)=true then linesL t (widL t width) (gOf t).cells else []
theorem cellV_i64 (l:List Int) (gap:Int) (x:GC):-9223372036854775808≤cellV l gap x∧cellV l gap x≤9223372036854775807:=by
 unfold cellV acrV
 split
 ·omega
 ·exact W_bounds _
theorem linesL_len (t:T) (l:List Int) (gs:List GC):(linesL t l gs).length=gs.length:=by simp [linesL]
theorem linesL_get (t:T) (l:List Int) {gs:List GC} {k:Nat} (h:k < gs.length):(linesL t l gs).getD k []=lnsOf t l (gs.getD k dG):=by simp [linesL,List.getD,h]
theorem linesL_next (t:T) (l:List Int) {gs:List GC} {k:Nat} (h:k < gs.length):(linesL t l gs).take (k+1)=(linesL t l gs).take k ++ [lnsOf t l (gs.getD k dG)]:=by
 rw [List.take_succ_eq_append_getElem (by rw [linesL_len];exact h)]
 simp [linesL,List.getD,h]
theorem lnsOf_len (t:T) (l:List Int) (x:GC):(lnsOf t l x).length≤31:=by
 have h1:=(out_bound (cellV l t.gap x) (wordsW (textOf t x))).1
 have h2:=wordsW_len (textOf t x)
 unfold lnsOf
 omega
theorem lnsOf_size (t:T) (l:List Int) (x:GC):∀ y ∈ lnsOf t l x,y.size≤maxLen:=by
 refine line_le (n:=maxLen) ?_ _ (fun y _=>?_)
 ·have:=(cellV_i64 l t.gap x).2
  unfold maxLen
  omega
 ·have:=y.2.2
  unfold maxLen
  omega
theorem linesL_size (t:T) (l:List Int) (gs:List GC):∀ k ∈ linesL t l gs,∀ y ∈ k,y.size≤maxLen:=by
 intro k hk y hy
 obtain ⟨x,_,rfl⟩:=List.mem_map.1 hk
 exact lnsOf_size t l x y hy
end Go.Proofs.YtcbibdhlkdcmiaiGreat
