/-
  PROVED HERE: with more room there are no more lines; with all the room that a text wishes there is one, if it has words; no line is wider than told, but a word. Also: 5 more texts of the same proof.
-/
import Derived.Test.YtggmjiddadjilaeGreatC36
import Derived.Test.YtggmjiddadjilaeGreatC9
import Derived.Test.YtggmjiddadjilaeGreatC33
import Derived.Test.YtggmjiddadjilaeGreatC24
import Derived.Test.YtggmjiddadjilaeGreatC35
import Derived.Test.YtggmjiddadjilaeGreatC29
import Derived.Test.YtggmjiddadjilaeGreatC34
import Derived.Test.YtggmjiddadjilaeGreatC30
import Derived.Test.YtggmjiddadjilaeGreatC28
import Derived.Test.YtggmjiddadjilaeGreatC21
import Derived.Deep.DeepCutAuto
import Derived.Deep.RegionWith
import Derived.Deep.QuietTactic
import Derived.BigQuiet
namespace Go.Proofs.YtggmjiddadjilaeGreat
open Go.RowKit
def LeLn (a b:List ByteArray × ByteArray):Prop:=(lnOut a).length < (lnOut b).length∨(lnOut a).length=(lnOut b).length∧a.2.size≤b.2.size
theorem cnt_nil {q:Int} {st:List ByteArray × ByteArray} (h:¬ 0 < st.2.size) (x:W30):(lnOut (stepLn q st x.1)).length=(lnOut st).length+1∧(stepLn q st x.1).2.size=x.1.size:=by
 have hx:=x.2.1
 have e:stepLn q st x.1=(st.1,x.1):=by unfold stepLn;rw [if_neg h]
 rw [e]
 simp [lnOut,h,hx]
theorem cnt_break {q:Int} {st:List ByteArray × ByteArray} (h:0 < st.2.size) (x:W30) (hq:q < (st.2.size:Int)+1+x.1.size):(lnOut (stepLn q st x.1)).length=(lnOut st).length+1∧(stepLn q st x.1).2.size=x.1.size:=by
 have hx:=x.2.1
 have e:stepLn q st x.1=(st.1 ++ [st.2],x.1):=by unfold stepLn;rw [if_pos h,if_pos hq]
 rw [e]
 simp [lnOut,h,hx]
theorem cnt_fits {q:Int} {st:List ByteArray × ByteArray} (h:0 < st.2.size) (x:W30) (hq:¬ q < (st.2.size:Int)+1+x.1.size):(lnOut (stepLn q st x.1)).length=(lnOut st).length∧(stepLn q st x.1).2.size=st.2.size+1+x.1.size:=by
 have e:stepLn q st x.1=(st.1,st.2 ++ ⟨#[32]⟩ ++ x.1):=by unfold stepLn;rw [if_pos h,if_neg hq]
 have hz:(st.2 ++ ⟨#[32]⟩ ++ x.1).size=st.2.size+1+x.1.size:=by rw [ByteArray.size_append,ByteArray.size_append];rfl
 rw [e]
 refine ⟨?_,hz⟩
 have hp:0 < (st.2 ++ ⟨#[32]⟩ ++ x.1).size:=by omega
 simp only [lnOut,hp,h,if_true,List.length_append,List.length_cons,List.length_nil]
theorem cnt_zero {st:List ByteArray × ByteArray} (hok:LnOk st):(¬ 0 < st.2.size→(lnOut st).length=0)∧(0 < st.2.size→0 < (lnOut st).length):=by
 refine ⟨fun h=>?_,fun h=>?_⟩
 ·have:st.1=[]:=hok (by omega)
  simp [lnOut,h,this]
 ·simp [lnOut,h]
theorem wider_step {p q:Int} (hpq:p≤q) {a b:List ByteArray × ByteArray} (ha:LnOk a) (hb:LnOk b) (h:LeLn a b) (x:W30):LeLn (stepLn q a x.1) (stepLn p b x.1):=by
 have hx:=x.2.1
 obtain ⟨za,za'⟩:=cnt_zero ha
 obtain ⟨zb,zb'⟩:=cnt_zero hb
 unfold LeLn at h ⊢
 by_cases h1:0 < a.2.size
 ·have c1:=za' h1
  have h2:0 < b.2.size:=by
   by_cases h2:0 < b.2.size
   ·exact h2
   ·have:=zb h2;omega
  by_cases qa:q < (a.2.size:Int)+1+x.1.size
  ·obtain ⟨e1,e2⟩:=cnt_break h1 x qa
   by_cases qb:p < (b.2.size:Int)+1+x.1.size
   ·obtain ⟨e3,e4⟩:=cnt_break h2 x qb;omega
   ·obtain ⟨e3,e4⟩:=cnt_fits h2 x qb;omega
  ·obtain ⟨e1,e2⟩:=cnt_fits h1 x qa
   by_cases qb:p < (b.2.size:Int)+1+x.1.size
   ·obtain ⟨e3,e4⟩:=cnt_break h2 x qb;omega
   ·obtain ⟨e3,e4⟩:=cnt_fits h2 x qb;omega
 ·have c1:=za h1
  obtain ⟨e1,e2⟩:=cnt_nil (q:=q) h1 x
  by_cases h2:0 < b.2.size
  ·have:=zb' h2
   by_cases qb:p < (b.2.size:Int)+1+x.1.size
   ·obtain ⟨e3,e4⟩:=cnt_break h2 x qb;omega
   ·obtain ⟨e3,e4⟩:=cnt_fits h2 x qb;omega
  ·obtain ⟨e3,e4⟩:=cnt_nil (q:=p) h2 x
   have:=zb h2
   omega
theorem wider {p q:Int} (hpq:p≤q) (ws:List W30):(lnOut (lnSt q ws)).length≤(lnOut (lnSt p ws)).length:=by
 suffices h:∀ (l:List W30) (a b:List ByteArray × ByteArray),LnOk a→LnOk b→LeLn a b→LeLn (l.foldl (fun st x=>stepLn q st x.1) a) (l.foldl (fun st x=>stepLn p st x.1) b) by
  have:=h ws ([],⟨#[]⟩) ([],⟨#[]⟩) (fun _=>rfl) (fun _=>rfl) (Or.inr ⟨rfl,Nat.le_refl _⟩)
  unfold LeLn at this
  have e1:lnSt q ws=ws.foldl (fun st x=>stepLn q st x.1) ([],⟨#[]⟩):=rfl
  have e2:lnSt p ws=ws.foldl (fun st x=>stepLn p st x.1) ([],⟨#[]⟩):=rfl
  rw [e1,e2]
  omega
 intro l
 induction l with
 | nil=>intro a b _ _ h;exact h
 | cons x r ih=>intro a b ha hb h;exact ih _ _ (lnOk_step q a x) (lnOk_step p b x) (wider_step hpq ha hb h x)
theorem line_le {q:Int} {n:Nat} (hq:q≤(n:Int)) (ws:List W30) (hw:∀ x ∈ ws,x.1.size≤n):∀ y ∈ lnOut (lnSt q ws),y.size≤n:=by
 suffices h:∀ (l:List W30) (st:List ByteArray × ByteArray),(∀ x ∈ l,x.1.size≤n)→(∀ y ∈ st.1,y.size≤n)→st.2.size≤n→(∀ y ∈ (l.foldl (fun st x=>stepLn q st x.1) st).1,y.size≤n)∧(l.foldl (fun st x=>stepLn q st x.1) st).2.size≤n by
  obtain ⟨h1,h2⟩:=h ws ([],⟨#[]⟩) hw (fun y hy=>by cases hy) (Nat.zero_le _)
  intro y hy
  unfold lnOut at hy
  split at hy
  ·rcases List.mem_append.1 hy with hy | hy
   ·exact h1 y hy
   ·simp at hy;subst hy;exact h2
  ·exact h1 y hy
 intro l
 induction l with
 | nil=>intro st _ h1 h2;exact ⟨h1,h2⟩
 | cons x r ih =>
  intro st hx h1 h2
  have hx1:=hx x (List.mem_cons_self ..)
  refine ih _ (fun y hy=>hx y (List.mem_cons_of_mem _ hy)) ?_ ?_
  ·show ∀ y ∈ (stepLn q st x.1).1,y.size≤n
   unfold stepLn
   by_cases c1:0 < st.2.size
   ·by_cases c2:q < (st.2.size:Int)+1+x.1.size
    ·rw [if_pos c1,if_pos c2]
     intro y hy
     rcases List.mem_append.1 hy with hy | hy
     ·exact h1 y hy
     ·simp at hy;subst hy;exact h2
    ·rw [if_pos c1,if_neg c2];exact h1
   ·rw [if_neg c1];exact h1
  ·show (stepLn q st x.1).2.size≤n
   by_cases c1:0 < st.2.size
   ·by_cases c2:q < (st.2.size:Int)+1+x.1.size
    ·rw [(cnt_break c1 x c2).2];exact hx1
    ·rw [(cnt_fits c1 x c2).2];omega
   ·rw [(cnt_nil (q:=q) c1 x).2];exact hx1
theorem one_line {q:Int} (ws:List W30) (hq:(((ws.map (fun x=>x.1.size)).sum+ws.length:Nat):Int)≤q+1):(lnOut (lnSt q ws)).length=if ws.length=0 then 0 else 1:=by
 suffices h:∀ (l:List W30) (st:List ByteArray × ByteArray),LnOk st→st.1=[]→(st.2.size:Int)+(((l.map (fun x=>x.1.size)).sum+l.length:Nat):Int)≤q+(if 0 < st.2.size then 0 else 1)→(lnOut (l.foldl (fun st x=>stepLn q st x.1) st)).length=if l.length=0 then (lnOut st).length else 1 by
  have:=h ws ([],⟨#[]⟩) (fun _=>rfl) rfl (by have e:(ByteArray.mk #[]).size=0:=rfl;simp only [e];simpa using hq)
  exact this
 intro l
 induction l with
 | nil=>intro st _ _ _;rfl
 | cons x r ih =>
  intro st hok h1 h2
  have hx:=x.2.1
  simp only [List.map_cons,List.sum_cons,List.length_cons] at h2
  by_cases c1:0 < st.2.size
  ·rw [if_pos c1] at h2
   have c2:¬ q < (st.2.size:Int)+1+x.1.size:=by push_cast at h2;omega
   obtain ⟨e1,e2⟩:=cnt_fits c1 x c2
   have e3:(stepLn q st x.1).1=[]:=by unfold stepLn;rw [if_pos c1,if_neg c2];exact h1
   have:=ih _ (lnOk_step q st x) e3 (by rw [if_pos (by omega),e2];push_cast at h2 ⊢;omega)
   rw [List.foldl_cons,this,e1]
   have e4:(lnOut st).length=1:=by simp [lnOut,c1,h1]
   rw [e4]
   simp
  ·rw [if_neg c1] at h2
   obtain ⟨e1,e2⟩:=cnt_nil (q:=q) c1 x
   have e3:(stepLn q st x.1).1=[]:=by unfold stepLn;rw [if_neg c1];exact h1
   have:=ih _ (lnOk_step q st x) e3 (by rw [if_pos (by omega),e2];push_cast at h2 ⊢;omega)
   rw [List.foldl_cons,this,e1]
   have e4:(lnOut st).length=0:=by simp [lnOut,c1,h1]
   rw [e4]
   simp
def lnsOf (t:T) (l:List Int) (x:GC):List ByteArray:=lnOut (lnSt (cellV l t.gap x) (wordsW (textOf t x)))
def linesL (t:T) (l:List Int) (gs:List GC):List (List ByteArray):=gs.map (lnsOf t l)
def linesT (t:T) (width:Int):List (List ByteArray):=if (tblB t && inB width 0 300)=true then linesL t (widL t width) (gOf t).cells else []
theorem cellV_i64 (l:List Int) (gap:Int) (x:GC):-9223372036854775808≤cellV l gap x∧cellV l gap x≤9223372036854775807:=by
 unfold cellV acrV
 split
 ·omega
 ·exact W_bounds _
theorem linesL_len (t:T) (l:List Int) (gs:List GC):(linesL t l gs).length=gs.length:=by simp [linesL]
theorem linesL_get (t:T) (l:List Int) {gs:List GC} {k:Nat} (h:k < gs.length):(linesL t l gs).getD k []=lnsOf t l (gs.getD k dG):=by simp [linesL,List.getD,h]
theorem linesL_next (t:T) (l:List Int) {gs:List GC} {k:Nat} (h:k < gs.length):(linesL t l gs).take (k+1)=(linesL t l gs).take k ++ [lnsOf t l (gs.getD k dG)]:=by
 rw [List.take_succ_eq_append_getElem (by rw [linesL_len];exact h)]
 simp [linesL,List.getD,h]
theorem lnsOf_size (t:T) (l:List Int) (x:GC):∀ y ∈ lnsOf t l x,y.size≤maxLen:=by
 refine line_le (n:=maxLen) ?_ _ (fun y _=>?_)
 ·have:=(cellV_i64 l t.gap x).2
  unfold maxLen
  omega
 ·have:=y.2.2
  unfold maxLen
  omega
theorem linesL_size (t:T) (l:List Int) (gs:List GC):∀ k ∈ linesL t l gs,∀ y ∈ k,y.size≤maxLen:=by
 intro k hk y hy
 obtain ⟨x,_,rfl⟩:=List.mem_map.1 hk
 exact lnsOf_size t l x y hy
def noCols (t:T):T:={ t with cols:=[] }
theorem noCols_drawn {t:T} (h:Drawn t):Drawn (noCols t):=⟨h.rows,by simp [noCols],h.head,h.foot,h.gap,h.cells,h.few⟩
theorem sd_none (q:Int):sd [] q=(0,0):=by
 unfold sd
 split <;> simp
theorem kind0 {t:T} (h:t.cols=[]) (k:Nat):kindP t 0 k=true∧kindP t 2 k=false:=by
 simp [kindP,h,sd_none]
theorem extD0 {a b:List Int} (h:a.length=b.length) (hk:∀ k,k < a.length→a.getD k 0=b.getD k 0):a=b :=
 List.ext_getElem h (fun i h1 h2=>by have:=hk i h1;simpa [List.getD,h1,h2] using this)
theorem want2_full {t:T} (h:t.cols=[]) {l:List Int} (hl:l.length=colN t) (hle:∀ k,k < colN t→l.getD k 0≤(wishL t).getD k 0):addL l (want2 t l)=wishL t:=by
 have hw:=want2_len t l
 refine extD0 (by rw [addL_len hw,hl,wishL_len]) (fun k hk=>?_)
 rw [addL_len hw] at hk
 rw [addL_get hw hk,want2_get hk,if_pos (kind0 h k).1]
 have:=hle k (by omega)
 omega
theorem wid_over2 {t:T} (hD:Drawn t) (hok:tblB t=true) {width:Int} (hw:0≤width∧width≤300) (hr:0 < restV t width) {k:Nat} (hk:k < colN t):(out2 t width).getD k 0≤(widL t width).getD k 0:=by
 obtain ⟨_,C,hgc,hC,_⟩:=cel_of hD
 have hCN:=colN_of hgc
 obtain ⟨_,_,hl2,_,ho2,_,hs⟩:=wid_steps hD hok hw hr
 unfold widL
 rw [if_neg (by omega)]
 split
 ·rename_i h0
  have b:=(last_share ho2 (by omega) hl2 h0).2.2 k hk
  omega
 ·split
  ·rename_i h2
   have b:=(last_share ho2 (by omega) hl2 h2).2.2 k hk
   omega
  ·exact Int.le_refl _
theorem wish_got {t:T} (hD:Drawn t) (hok:tblB t=true) (hc:t.cols=[]) {width:Int} (hw:0≤width∧width≤300) (hn:(wishL t).sum+t.gap * ((colN t:Int) - 1)≤width):LeL (wishL t) (widL t width):=by
 have h1:=(wid_facts hD hok hw).1
 have hwl:=wishL_len t
 have hll:=leastL_len t
 have hwle:=wish_least t
 refine ⟨by omega,fun k hk=>?_⟩
 rw [hwl] at hk
 by_cases hr:0 < restV t width
 ·refine Int.le_trans ?_ (wid_over2 hD hok hw hr hk)
  obtain ⟨ok1,ok2,_,ho1,_,_,hs⟩:=wid_steps hD hok hw hr
  have hz:∀ j,j < (leastL t).length→(want1 t width (leastL t)).getD j 0=0:=fun j hj=>by
   rw [want1_get hj,if_neg (by rw [(kind0 hc j).2];simp)]
  have hzs:(want1 t width (leastL t)).sum=0:=by
   have e:want1 t width (leastL t)=List.replicate (leastL t).length 0:=extD0 (by rw [want1_len,List.length_replicate]) (fun j hj=>by
    rw [want1_len] at hj
    rw [hz j hj]
    simp [List.getD,hj])
   rw [e]
   simp
  have hl1:left1 t width=restV t width:=by
   unfold left1
   rw [(upTo_all ok1 (by omega)).2]
   omega
  have hle:∀ j,j < colN t→(out1 t width).getD j 0≤(wishL t).getD j 0:=fun j hj=>by
   rw [(hs j hj).2.2.1 (kind0 hc j).2]
   exact hwle.2 j (by omega)
  have hf:=want2_full hc ho1 hle
  have hsum:=congrArg List.sum hf
  rw [addL_sum (want2_len t (out1 t width))] at hsum
  have ho1s:(out1 t width).sum=(leastL t).sum:=by
   rw [extD0 (a:=out1 t width) (b:=leastL t) (by omega) (fun j hj=>(hs j (by omega)).2.2.1 (kind0 hc j).2)]
  have hle2:(want2 t (out1 t width)).sum≤left1 t width:=by
   rw [hl1]
   unfold restV
   omega
  unfold out2
  rw [(upTo_all ok2 hle2).1,hf]
  exact Int.le_refl _
 ·rw [wid_no (by omega)]
  have hs:(wishL t).sum≤(leastL t).sum:=by
   unfold restV at hr
   omega
  by_cases hlt:(leastL t).getD k 0 < (wishL t).getD k 0
  ·have:=sum_lt (a:=leastL t) (b:=wishL t) (by omega) (fun j hj=>hwle.2 j hj) k (by omega) hlt
   omega
  ·omega
theorem lnTo_sumW (l:List W30):lnTo (l.map (fun x=>x.1)) (l.map (fun x=>x.1)).length=(l.map (fun x=>x.1.size)).sum:=by
 unfold lnTo
 rw [List.take_length,List.map_map]
 rfl
theorem wish_oneW (s:ByteArray):(lnOut (lnSt (wishOf s) (wordsW s))).length≤1:=by
 have h:(lnOut (lnSt (wishOf s) (wordsW s))).length=if (wordsW s).length=0 then 0 else 1:=by
  apply one_line
  cases hok:txtOkB s with
  | false =>
   have:wordsW s=[]:=by rw [wordsW,if_neg (by rw [hok];simp)]
   rw [this]
   simp
   omega
  | true =>
   have hj:=congrArg ByteArray.size (join_words hok)
   rw [joinTo_len _ _ (Nat.le_refl _),lnTo_sumW,List.length_map] at hj
   have:wishOf s=s.size:=by rw [wishOf,if_pos hok]
   rw [this]
   omega
 rw [h]
 split <;> omega
theorem one_each {t:T} (hD:Drawn t) (hc:t.cols=[]) {x:Int} (h0:0 < (widT t x).length) (hn:¬ x < (wishL t).sum+t.gap * ((colN t:Int) - 1)):(∀ k,k < (widT t x).length→¬ (widT t x).getD k 0 < (wishL t).getD k 0)∧∀ k,k < (linesT t x).length→((linesT t x).getD k []).length≤1:=by
 obtain ⟨hok,hx,he⟩:=widT_yes h0
 have hW:=wish_got hD hok hc hx (by omega)
 rw [he]
 refine ⟨fun k hk=>by have:=hW.2 k (by rw [hW.1];exact hk);omega,fun k hk=>?_⟩
 unfold linesT at hk ⊢
 have hin:(tblB t && inB x 0 300)=true:=by rw [hok];simp [inB,hx]
 rw [if_pos hin] at hk ⊢
 rw [linesL_len] at hk
 rw [linesL_get t (widL t x) hk]
 obtain ⟨h40,C,hgc,hC88,hcel⟩:=cel_of hD
 have hCN:=colN_of hgc
 have hc1:=hcel k hk
 have hup:=wid_up hD hok hx
 have h1:=(wid_facts hD hok hx).1
 have h2:=hasV_le hc1 hW (by rw [wishL_len];exact hCN) t.gap
 have h3:=wish_has hD hk
 unfold lnsOf
 rw [cellV_has hc1 (fun i hi=>by have:=hup i hi;omega) (by omega)]
 exact Nat.le_trans (wider (Int.le_trans h3 h2) _) (wish_oneW _)
end Go.Proofs.YtggmjiddadjilaeGreat
namespace Go.Proofs.YtggmjiddadjilaeGreat
open Go.RowKit Go.BigFrame
theorem want1_no {t:T} {width:Int} {L:List Int} {i:Nat} (hi:i < (want1 t width L).length) (hP:kindP t 2 i=false):(want1 t width L).getD i 0=0:=by
 rw [want1_get (by rw [want1_len] at hi;exact hi),if_neg (by rw [hP];simp)]
theorem part_col {t:T} {j:Nat} (h:kindP t 2 j=true):j < t.cols.length∧sd t.cols j=t.cols.getD j (0,0):=by
 by_cases hj:j < t.cols.length
 ·exact ⟨hj,sd_yes hj⟩
 ·rw [kindP,sd_no (inB_false (by omega))] at h
  simp at h
set_option maxRecDepth 100000 in
set_option maxHeartbeats 1000000 in
theorem impltoParts (w0:World) (sb:Nat) (ac ar:Option Addr) (cc cr:Nat) (t:T) (width:Int) (g cap C D:Nat) (left:Int) (L:List Int) {z:Nat} (hc:ColsAt w0 z (.slice ac t.cols.length cc) t.cols) (hC:C≤88) (hCt:C=colN t) (hLC:L.length=C) (hLs:L.all wtB=true) (hg0:w0.heap.size≤g) (hgD:g < D) (hDs:D≤sb) (hw:0≤width∧width≤300) (hok:shrOkB left (want1 t width L)=true) (w:World) (h:SpS w0 sb ac ar cc cr t width g cap C D left L w) :
  Calls Tryz.prog 46 #[.pointer (some ⟨sb,0,none⟩)] w fun e w'=>e=.returned (.tuple #[])∧SpS w0 sb ac ar cc cr t width g cap C D (upToN left (want1 t width L)) (addL L (upToL left (want1 t width L))) w'∧Bk2 g sb w w':=by
 have hmx:Tryz.prog.follows .mixedOrders=true:=by kernel_rfl
 obtain ⟨ok1,len1,all1,sum1,give1⟩:=step_lists (P:=kindP t 2) (want1_len t width L) hok (fun i hi hP=>want1_no hi hP)
 rw [hLC] at ok1 len1 all1 sum1 give1
 have HTl:=Hd (selL_len (want1 t width L) (kindP t 2) C)
 have HTg:=Hd (fun k (hk:k < (selN (kindP t 2) C).length)=>selL_get (l:=want1 t width L) hk)
 have HW:=Hd (fun j (hj:j < C) (hP:kindP t 2 j=true)=>(want1_get (t:=t) (width:=width) (l:=L) (k:=j) (by omega)).trans (if_pos hP))
 have HKd:=Hd (fun j (hj:j < C)=>sd_kind (t:=t) (k:=j) (by omega))
 have HLt:=Hd (fun k (hk:k < (selN (kindP t 2) C).length)=>selN_lt hk)
 have hnl:=selN_le (kindP t 2) C
 have HC:=Hd hc
 have H:=Hd h
 have KO:=Hd (implofKind sb ac ar cc cr t width g cap C left 2 hC w h.sp (hc.kept h.bel))
 have hmk:=makeI (selN (kindP t 2) C).length (by omega)
 have HG1:=Hd give1
 have HSum:=Hd sum1
 have HA1:=Hd all1
 have HLn:=Hd len1
 have hleft:=(shrOk_parts hok).1
 have HOk:=Hd ok1
 generalize selN (kindP t 2) C=js at *
 generalize hT:selL (want1 t width L) (kindP t 2) C=T at *
 clear h hc give1 sum1 all1 len1 ok1 hok hT
 have hTl:=HTl.out
 go_enter Tryz.func46,Tryz.ntmps46
 go_wp2_with fail
 refine KO.out.mono ?_
 rintro e w1 ⟨v1,rfl,hr1,hb1⟩
 obtain ⟨a1,c1,rfl⟩:=hr1.form
 rw [natL_len] at hr1 ⊢
 have HR1:=Hd hr1
 have HS1:=Hd (H.out.kept hb1)
 have HB1:=Hd hb1
 have hz1:=hb1.size
 clear hr1 hb1 KO
 have hn2:(w1.alloc (.cells (newI js.length) 3)).heap.size=w1.heap.size+1:=by simp
 have HN:=Hd (row_new w1 js.length (by omega))
 have hA2:=k_alloc (Below.refl w1.heap.size w1) (.cells (newI js.length) 3)
 go_upto_region 2 with fail
 have HS2:=Hd (HS1.out.kept hA2)
 have HR2:=Hd (HR1.out.kept (w':=w1.alloc (.cells (newI js.length) 3)) (fun j h0 _ _=>hA2.block j h0))
 have HB2:=Hd (k_trans HB1.out hA2)
 have hD2:D≤w1.heap.size:=by have:=HS1.out.sp.lt;omega
 have hsb1:sb < w1.heap.size:=HS1.out.sp.lt
 have hsbw:sb < w.heap.size:=H.out.sp.lt
 have hw0:w0.heap.size≤w1.heap.size:=HS1.out.bel.size
 clear HS1 HR1 HB1 hA2 H
 generalize w1.alloc (.cells (newI js.length) 3)=W2 at HN HS2 HR2 HB2 hn2 ⊢
 generalize w1.heap.size=gb at HN HR2 hn2 hD2 hsb1 hz1 hw0 ⊢
 go_wp2_with fail
 go_loopw [16] (fun s W=>∃ k:Nat,s=.int .i64 k∧k≤js.length∧Hid (RowI W gb (gb+1) (.slice (some ⟨gb,0,none⟩) js.length js.length) (fillL T k))∧Hid (Bk gb W2 W)) (fun s _=>js.length - (intOf s).toNat)
 case atStart=>exact ⟨0,rfl,Nat.zero_le _,by rw [fillL_zero,hTl];exact HN,Bk.refl _ _⟩
 case round =>
  clear HN
  obtain ⟨k,rfl,hk,HF,HB⟩:=hrel
  have HS:=Hd (HS2.out.bk HB.out hw0 (by omega) hD2)
  have HR:=Hd (HR2.out.kept (fun j h0 _ h2=>HB.out.block j h0 (by omega)))
  by_cases hlt:k < js.length
  case pos =>
   obtain ⟨b1,c1',e1,hb1B,_,hb1w,hc11,hc12,hx1,_⟩:=HR.out.get (i:=k) (by rw [natL_len];exact hlt)
   rw [natL_len] at e1 hc11
   rw [natL_get hlt] at hx1
   simp only [Value.slice.injEq,true_and] at e1
   obtain ⟨rfl,rfl⟩:=e1
   obtain ⟨hjC,hjP⟩:=HLt.out k hlt
   have hTk:=HTg.out k hlt
   have hjj:js[k]=js.getD k 0:=by simp [List.getD,hlt]
   rw [hjj] at hTk
   rw [HW.out _ hjC hjP] at hTk
   obtain ⟨hjc,hsd⟩:=part_col hjP
   have hkd:=HKd.out _ hjC
   have hk2:(sd t.cols (js.getD k 0:Nat)).1=2:=by simpa [kindP] using hjP
   rw [hsd] at hTk hkd hk2
   obtain ⟨b,off,cap2,e2,hc21,hc22,hbl,hy0,hy1⟩:=At.get (HC.out.kept HS.out.bel) hjc
   simp only [Value.slice.injEq,true_and] at e2
   obtain ⟨rfl,rfl⟩:=e2
   obtain ⟨g',cap',e3,_,_,hgw,hc31,hc32,hx3,_⟩:=HS.out.row.get (i:=js.getD k 0) (by omega)
   rw [hLC] at e3 hc31
   simp only [Value.slice.injEq,Option.some.injEq,Addr.mk.injEq,and_true,true_and] at e3
   obtain ⟨rfl,rfl⟩:=e3
   have hxs:=getD_small hLs (js.getD k 0)
   generalize js.getD k 0=j at *
   generalize t.cols.getD j (0,0)=p at *
   generalize L.getD j 0=x at *
   have hp2:1≤p.2∧p.2≤100:=by omega
   have hm0:0≤width * p.2:=Int.mul_nonneg hw.1 (by omega)
   have hm1:width * p.2≤30000:=Int.le_trans (Int.mul_le_mul hw.2 hp2.2 (by omega) (by omega)) (by omega)
   have hq:Int.tdiv (width * p.2) 100=width * p.2 / 100:=Int.tdiv_eq_ediv_of_nonneg hm0
   unfold maxLen at hc12 hc22 hc32
   have HFx:=Hd (fillL_succ (l:=T) (k:=k) (by omega))
   rw [hTk] at HFx
   have hne:=bw_some wr
   have m0:=bw_cell (a:=⟨sb,5,none⟩) HS.out.sp.lt (cellB (p:=5) HS.out.sp)
   have m1:=bw_cell (a:=⟨sb,0,none⟩) HS.out.sp.lt (cellB (p:=0) HS.out.sp)
   have m2:=bw_cell hbl hy1
   have HX:=Hd (And.intro hgw hx3)
   clear hy0 hy1 hx3 hTk hsd hkd hk2 hjP
   go_upto_region 5 with fail
   clear hx1
   refine wp_region_quiet_below hmx (by kernel_rfl) ?_
   repeat (go_big_quiet_step (fail))
   refine wpQuiet_nil ?_
   intro W5 hw'
   obtain ⟨⟨Wx,hW5⟩,hw''⟩:=hw'
   subst hw''
   have s6:W5.cell? ⟨sb,6,none⟩=some (.slice (some ⟨g,0,none⟩) C cap):=cellB (p:=6) (HS.out.sp.kept hW5)
   have gx:W5.cell? ⟨g,j,none⟩=some (.int .i64 x):=(hW5.cell (p:=⟨g,j,none⟩) HX.out.1).trans HX.out.2
   have HF5:=Hd (HF.out.kept (fun i h0 _ _=>hW5.block i h0))
   have HB5:=Hd (HB.out.trans (Bk.of_below hW5))
   obtain ⟨g5,cap5,e5,_,_,hgw5,_,_,hx5,hf5⟩:=HF5.out.get (i:=k) (by rw [fillL_len T (by omega)];omega)
   simp only [Value.slice.injEq,Option.some.injEq,Addr.mk.injEq,and_true] at e5
   have eg:=e5.1
   clear e5
   subst eg
   have HF6:=Hd (HF5.out.set (i:=k) (by rw [fillL_len T (by omega)];omega) (max 0 (width * p.2 / 100 - x)))
   rw [← HFx.out] at HF6
   have hyb:0≤width * p.2 / 100∧width * p.2 / 100≤300:=by omega
   generalize width * p.2 / 100=y at *
   clear m0 m1 m2 hne hW5 HX HF HB HF5 HFx
   go_wp2
   go_roundw
   case rel=>exact ⟨k+1,by go_num,by omega,HF6,HB5.out.set (p:=⟨gb,k,none⟩) (.inl rfl) _⟩
   case measure=>simp [intOf];omega
  case neg =>
   obtain rfl:k=js.length:=by omega
   have s7:wr.cell? ⟨sb,7,none⟩=some (.int .i64 left):=cellB (p:=7) HS.out.sp
   have HF':Hid (RowI wr gb (gb+1) (.slice (some ⟨gb,0,none⟩) js.length js.length) T):=by rw [← fillL_all T,hTl];exact HF
   have KU:=Hd (shareUpTo_any left _ T HOk.out wr HF'.out.at)
   go_wp2_with fail
   refine KU.out.mono ?_
   rintro e w5 ⟨v5,rfl,hr5,hb5⟩
   obtain ⟨a5,c5,rfl⟩:=hr5.form
   have hz5:=hb5.size
   have hzr:=HB.out.size
   have KG:=Hd (implgive sb ac ar cc cr t width g cap C left L (upToL left T) js (.slice a1 js.length c1) (.slice a5 (upToL left T).length c5) w0.heap.size D w.heap.size hLC (fun k hk=>(HLt.out k hk).1) (by omega) HLn.out hLs HA1.out hleft hgD hDs hsbw w5 (HS.out.kept hb5).sp (HS.out.kept hb5).row ((HR.out.kept (fun j h0 _ _=>hb5.block j h0)).base (Nat.le_refl _) (by omega)) (hr5.base (by omega) (Nat.le_refl _)))
   have HB6:=Hd ((HB2.out.trans (HB.out.below (n:=w.heap.size) (by omega) (by omega))).trans (hb5.mono (by omega)))
   have HL6:=Hd ((HS.out.kept hb5).bel)
   clear KU s7
   go_wp2_with fail
   refine KG.out.mono ?_
   rintro e w6 ⟨rfl,hs6,hr6,hb6⟩
   have HF6:=Hd (SpS.mk (HL6.out.trans (hb6.below HL6.out.size hg0 (by omega))) hs6 hr6)
   rw [HSum.out,HG1.out] at HF6
   have HK6:=Hd ((Bk2.of_below HB6.out).trans hb6)
   clear hs6 hr6 hb6
   go_wp2
   go_end0
   exact ⟨rfl,HF6.out,HK6.out⟩
set_option maxRecDepth 100000 in
set_option maxHeartbeats 1000000 in
theorem wideEnough_TxtLeast (nd:ByteArray→Int) (hnd:∀ s,0≤nd s∧nd s≤30) (KN:∀ (s:ByteArray) (W:World),s.size≤maxLen→Calls Tryz.prog 24 #[.string s] W fun e w'=>e=.returned (.int .i64 (nd s))∧Below W.heap.size W w')
  (ac ar:Option Addr) (cc cr:Nat) (t:T) (hD:Drawn t) (w:World) {z:Nat} (hc:ColsAt w z (.slice ac t.cols.length cc) t.cols) (hr:RowsAt w z (.slice ar t.rows.length cr) t.rows) (C:Nat) (hgc:(gOf t).cols=C) :
  Calls Tryz.prog 40 #[.agg #[.slice ac t.cols.length cc,.int .i64 t.head,.int .i64 t.foot,.slice ar t.rows.length cr,.int .i64 t.gap],.func (.func 24) #[] #[]] w fun e w'=>∃ v,e=.returned v∧RowI w' w.heap.size w'.heap.size v (needTo (fun x=>nd (textOf t x)) t.gap (gOf t).cells (zeroL C) 4)∧Below w.heap.size w w':=by
 obtain ⟨h40,C',hgc',hC88,hcel⟩:=cel_of hD
 obtain rfl:C'=C:=by rw [hgc'] at hgc;omega
 have K0:=k_alloc (Below.refl w.heap.size w) (.cells #[.slice ac t.cols.length cc,.int .i64 t.head,.int .i64 t.foot,.slice ar t.rows.length cr,.int .i64 t.gap] 26)
 have HN:=Hd KN
 have HCel:=Hd hcel
 have HDr:=Hd hD
 have HGC:=Hd hgc'
 have hup:=need_up (p:=fun x=>nd (textOf t x)) (l:=zeroL C') hcel h40 (by simp [zeroL]) (fun x=>(hnd _).2) (zero_up _)
 have HUp:=Hd hup
 have hps:=fun s hs=>pass_up (p:=fun x=>nd (textOf t x)) (s:=((s+1:Nat):Int)) (l:=needTo (fun x=>nd (textOf t x)) t.gap (gOf t).cells (zeroL C') s) hcel (by rw [needTo_len];simp [zeroL]) (fun x=>(hnd _).2) (hup s hs)
 have HPs:=Hd hps
 have HT:=Hd (And.intro (hc.kept K0) (hr.kept K0))
 have HX:=Hd (newestB w (.cells #[.slice ac t.cols.length cc,.int .i64 t.head,.int .i64 t.foot,.slice ar t.rows.length cr,.int .i64 t.gap] 26))
 have HK:=Hd K0
 have hmk:=makeI C' (by omega)
 have hmx:Tryz.prog.follows .mixedOrders=true:=by kernel_rfl
 clear hcel hD hup hps hc hr K0 KN hgc' hgc
 go_enter Tryz.func40,Tryz.ntmps40
 go_wp2_with fail
 refine (implGrdOf ac ar cc cr t HDr.out _ HT.out.1 HT.out.2).mono ?_
 rintro e w2 ⟨vg,rfl,hO2,hb2⟩
 obtain ⟨ag,cg,rfl⟩:=own_slice hO2
 have hG2:=hO2.at (gOf_gok HDr.out)
 have HW:Hid (Ws w z w2.heap.size ac ar cc cr t ag cg (w2.alloc (.cells #[.int .i64 (gOf t).rows,.int .i64 (gOf t).cols,.slice ag (gOf t).cells.length cg] 36))) :=
  ⟨k_alloc (k_trans HK.out hb2) _,⟨(HT.out.1.kept hb2).kept (k_alloc (Below.refl _ _) _),(HT.out.2.kept hb2).kept (k_alloc (Below.refl _ _) _)⟩,(Below.heap_alloc _ _ _ (Nat.lt_of_lt_of_le (by simp) hb2.size)).trans ((hb2.block w.heap.size (by simp)).trans HX.out),(hG2.base (by simp)).kept (k_alloc (Below.refl _ _) _),newestB _ _⟩
 have hz2:w.heap.size < w2.heap.size:=Nat.lt_of_lt_of_le (by simp) hb2.size
 clear hO2 hb2 hG2 HT HX HK
 go_upto_region 2 with fail
 generalize hW3:w2.alloc (.cells #[.int .i64 (gOf t).rows,.int .i64 (gOf t).cols,.slice ag (gOf t).cells.length cg] 36)=W3 at HW ⊢
 have hz3:W3.heap.size=w2.heap.size+1:=by rw [← hW3];simp
 clear hW3
 obtain ⟨y0,y1,y2,y3⟩:=HW.out.at
 rw [HGC.out] at y2
 go_wp2_with fail
 clear hmk y0 y1 y2 y3
 have S0:Hid (RowI (W3.alloc (.cells (newI C') 3)) (w2.heap.size+1) (w2.heap.size+2) (.slice (some ⟨w2.heap.size+1,0,none⟩) C' C') (zeroL C')):=by have h:=row_new W3 C' (by omega);rw [hz3] at h;exact h
 go_loopw [7] (fun s W=>∃ m:Nat,s=.int .i64 ((m:Int)+1)∧m≤4∧Hid (RowI W (w2.heap.size+1) (w2.heap.size+2) (.slice (some ⟨w2.heap.size+1,0,none⟩) C' C') (needTo (fun x=>nd (textOf t x)) t.gap (gOf t).cells (zeroL C') m))∧Hid (Below W3.heap.size W3 W)∧W3.heap.size < W.heap.size) (fun s _=>5 - (intOf s).toNat)
 case atStart=>exact ⟨0,rfl,by omega,S0,k_alloc (Below.refl _ _) _,by simp⟩
 case round =>
  clear S0
  obtain ⟨m,rfl,hm,HR,HB,hsz⟩:=hrel
  by_cases hlt:m < 4
  case neg =>
   obtain rfl:m=4:=by omega
   have hK:=Hd (HW.out.1.trans (HB.out.mono (by omega)))
   have HF:=Hd (HR.out.base (B':=w.heap.size) (D':=wr.heap.size) (by omega) (by omega))
   go_wp2
   go_ret
   exact ⟨_,rfl,HF.out,hK.out⟩
  have HWr:=Hd (HW.out.kept HB.out)
  obtain ⟨y0,y1,y2,y3⟩:=HWr.out.at
  rw [HGC.out] at y2
  go_wp2_with fail
  clear y0 y1 y2 y3 HWr
  have HUm:=Hd (HPs.out m (by omega) (by omega))
  rw [show decide ((m:Int)+1≤4)=true by simp;omega]
  go_loopw [22] (fun s W=>∃ k:Nat,s=.int .i64 k∧k≤(gOf t).cells.length∧Hid (RowI W (w2.heap.size+1) (w2.heap.size+2) (.slice (some ⟨w2.heap.size+1,0,none⟩) C' C') (passTo (fun x=>nd (textOf t x)) t.gap ((m+1:Nat):Int) (gOf t).cells (needTo (fun x=>nd (textOf t x)) t.gap (gOf t).cells (zeroL C') m) k))∧Hid (Below W3.heap.size W3 W)∧W3.heap.size < W.heap.size) (fun s _=>(gOf t).cells.length - (intOf s).toNat)
  case atStart=>exact ⟨0,rfl,Nat.zero_le _,HR,HB,hsz⟩
  case round =>
   clear HR HB hsz
   obtain ⟨k,rfl,hk,HR,HB,hsz⟩:=hrel
   by_cases hkl:k < (gOf t).cells.length
   case neg =>
    obtain rfl:k=(gOf t).cells.length:=by omega
    go_wp2
    go_roundw
    case rel=>exact ⟨m+1,by go_num,by omega,HR,HB,hsz⟩
    case measure=>simp [intOf];omega
   have HWr:=Hd (HW.out.kept HB.out)
   obtain ⟨b,off,cap',e',hc1,hc2,hbl,hx,_⟩:=At.get HWr.out.2.2.2.1 hkl
   simp only [Value.slice.injEq,true_and] at e'
   obtain ⟨rfl,rfl⟩:=e'
   unfold maxLen at hc2
   have HCe:=Hd (HCel.out k hkl)
   obtain ⟨⟨rn,jn,cn,mn,e1,e2,e3,e4,h1,h2,h3,h4,h5⟩,hgp,hrs⟩:=HCel.out k hkl
   have HSz:Hid ((textOf t ((gOf t).cells.getD k dG)).size≤maxLen):=text_size HCe.out HWr.out.2.1.2
   have hub:=HUm.out k hk
   have HNo:Hid ((mn:Int) ≠ ((m+1:Nat):Int)→passTo (fun x=>nd (textOf t x)) t.gap ((m+1:Nat):Int) (gOf t).cells (needTo (fun x=>nd (textOf t x)) t.gap (gOf t).cells (zeroL C') m) (k+1)=passTo (fun x=>nd (textOf t x)) t.gap ((m+1:Nat):Int) (gOf t).cells (needTo (fun x=>nd (textOf t x)) t.gap (gOf t).cells (zeroL C') m) k):=fun h=>by rw [passTo,if_neg (by rw [e4];exact h)]
   have HYes:Hid ((mn:Int)=((m+1:Nat):Int)→passTo (fun x=>nd (textOf t x)) t.gap ((m+1:Nat):Int) (gOf t).cells (needTo (fun x=>nd (textOf t x)) t.gap (gOf t).cells (zeroL C') m) (k+1)=wideL (passTo (fun x=>nd (textOf t x)) t.gap ((m+1:Nat):Int) (gOf t).cells (needTo (fun x=>nd (textOf t x)) t.gap (gOf t).cells (zeroL C') m) k) cn mn t.gap (nd (textOf t ((gOf t).cells.getD k dG)))):=fun h=>by rw [passTo,if_pos (by rw [e4];exact h),e3,e4,Int.toNat_natCast,Int.toNat_natCast]
   have hpl:=passTo_len (fun x=>nd (textOf t x)) t.gap ((m+1:Nat):Int) (gOf t).cells (needTo (fun x=>nd (textOf t x)) t.gap (gOf t).cells (zeroL C') m) k
   rw [needTo_len,show (zeroL C').length=C' by simp [zeroL]] at hpl
   generalize (gOf t).cells.getD k dG=x at hx e1 e2 e3 e4 HYes hrs HCe HSz
   generalize hL:passTo (fun x=>nd (textOf t x)) t.gap ((m+1:Nat):Int) (gOf t).cells (needTo (fun x=>nd (textOf t x)) t.gap (gOf t).cells (zeroL C') m) k=L at HR HNo HYes hub hpl
   clear hL
   have HKT:=Hd (fun (W:World) (hR:RowsAt W z (.slice ar t.rows.length cr) t.rows)=>impltextOf ac ar cc cr t x HCe.out W hR)
   simp only [e1,e2,e3,e4] at HKT
   obtain ⟨x0,x1,x2,x3,x4⟩:=hx
   rw [e1] at x0
   rw [e2] at x4
   rw [e3] at x1
   rw [e4] at x3
   by_cases hms:(mn:Int)=(m:Int)+1
   case neg =>
    have hmb:((mn:Int) == (m:Int)+1)=false:=by simpa using hms
    have HL:=Hd (HNo.out (by omega))
    clear HNo HYes e1 e2 e3 e4 hms
    go_wp2
    go_roundw
    case rel=>exact ⟨k+1,by go_num,by omega,by rw [HL.out];exact HR.out.kept (fun j h0 _ _=>Below.heap_alloc _ _ _ h0),k_alloc HB.out _,by simp;omega⟩
    case measure=>simp [intOf];omega
   obtain rfl:mn=m+1:=by omega
   have HL:=Hd (HYes.out rfl)
   have hmb:((m:Int)+1 == (m:Int)+1)=true:=by simp
   have hcast:((m+1:Nat):Int)=(m:Int)+1:=by omega
   rw [hcast] at x3
   simp only [hcast] at HKT
   clear hcast
   clear HNo HYes e1 e2 e3 e4 hms
   go_upto_region 10 with fail
   have HW4:Hid (Ws w z w2.heap.size ac ar cc cr t (some ⟨b,off,none⟩) cg (wr.alloc (.cells #[.int .i64 (rn:Int),.int .i64 (cn:Int),.int .i64 x.rows,.int .i64 ((m:Int)+1),.int .i64 (jn:Int)] 49))):=HWr.out.kept (k_alloc (Below.refl _ _) _)
   have HB4:=Hd (k_alloc HB.out (.cells #[.int .i64 (rn:Int),.int .i64 (cn:Int),.int .i64 x.rows,.int .i64 ((m:Int)+1),.int .i64 (jn:Int)] 49))
   have HR4:=Hd (HR.out.kept (fun j h0 _ _=>Below.heap_alloc wr (.cells #[.int .i64 (rn:Int),.int .i64 (cn:Int),.int .i64 x.rows,.int .i64 ((m:Int)+1),.int .i64 (jn:Int)] 49) j h0))
   have HX4:=Hd (newestB wr (.cells #[.int .i64 (rn:Int),.int .i64 (cn:Int),.int .i64 x.rows,.int .i64 ((m:Int)+1),.int .i64 (jn:Int)] 49))
   have hsz4:W3.heap.size < (wr.alloc (.cells #[.int .i64 (rn:Int),.int .i64 (cn:Int),.int .i64 x.rows,.int .i64 ((m:Int)+1),.int .i64 (jn:Int)] 49)).heap.size:=by simp;omega
   generalize wr.alloc (.cells #[.int .i64 (rn:Int),.int .i64 (cn:Int),.int .i64 x.rows,.int .i64 ((m:Int)+1),.int .i64 (jn:Int)] 49)=W4 at HW4 HB4 HR4 HX4 hsz4 ⊢
   generalize wr.heap.size=cb at HX4 ⊢
   clear HWr HR HB hsz x0 x1 x2 x3 x4 hbl
   have q1:W4.cell? ⟨cb,1,none⟩=some (.int .i64 (cn:Int)):=cellB HX4.out
   have hcb:cb < W4.heap.size:=(bL HX4.out)
   have htb:w.heap.size < W4.heap.size:=(bL HW4.out.2.2.1)
   obtain ⟨y0,y1,y2,y3⟩:=HW4.out.at
   obtain ⟨t3,t4,t5,t6,t10,t11,t12,t13⟩:=slice_facts h3 hC88
   have hne:=bw_some W4
   have g0:=bw_cell (a:=⟨cb,0,none⟩) hcb (cellB (p:=0) HX4.out)
   have g1:=bw_cell (a:=⟨cb,1,none⟩) hcb (cellB (p:=1) HX4.out)
   have g2:=bw_cell (a:=⟨cb,2,none⟩) hcb (cellB (p:=2) HX4.out)
   have g3:=bw_cell (a:=⟨cb,3,none⟩) hcb (cellB (p:=3) HX4.out)
   have g4:=bw_cell (a:=⟨cb,4,none⟩) hcb (cellB (p:=4) HX4.out)
   have b0:=bw_cell (a:=⟨w.heap.size,0,none⟩) htb (cellB (p:=0) HW4.out.2.2.1)
   have b1:=bw_cell (a:=⟨w.heap.size,1,none⟩) htb (cellB (p:=1) HW4.out.2.2.1)
   have b2:=bw_cell (a:=⟨w.heap.size,2,none⟩) htb (cellB (p:=2) HW4.out.2.2.1)
   have b3:=bw_cell (a:=⟨w.heap.size,3,none⟩) htb (cellB (p:=3) HW4.out.2.2.1)
   have b4:=bw_cell (a:=⟨w.heap.size,4,none⟩) htb (cellB (p:=4) HW4.out.2.2.1)
   have KT:=Hd (fun (p:BW W4)=>bw_of ((HKT.out p.u (HW4.out.kept p.h).2.1.2).mono (fun _ _ ⟨h1,_,h2⟩=>And.intro h1 h2)))
   have KND:=Hd (fun (p:BW W4)=>bw_of (HN.out (textOf t x) p.u HSz.out))
   have KW:=Hd (fun W=>widen_any (w2.heap.size+1) (w2.heap.size+2) (w2.heap.size+1) C' C' L (fun i hi=>by have:=hub i hi;omega) cn (m+1) (by rw [hpl];exact h3) ⟨h4,h5⟩ t.gap (nd (textOf t x)) hgp (hnd (textOf t x)) W)
   clear y0 y1 y2 y3 q1
   refine wp_region_last 15 hmx (by rfl) (by rfl) (by kernel_rfl) (by kernel_rfl) ?_
   simp only [List.take_succ_cons,List.take_zero]
   repeat (go_big_quiet_step (first | (go_at_call 59;refine KT.out _) | (go_at_call 24;refine KND.out _)))
   refine wpQuiet_nil ?_
   intro W5 hw'
   obtain ⟨⟨Wx,hW5⟩,hw''⟩:=hw'
   subst hw''
   have HB5:=Hd (HB4.out.trans (hW5.mono (Nat.le_of_lt hsz4)))
   have HR5:=Hd (HR4.out.kept (fun j h0 _ _=>hW5.block j h0))
   have hsz5:W3.heap.size < W5.heap.size:=Nat.lt_of_lt_of_le hsz4 hW5.size
   clear g0 g1 g2 g3 g4 b0 b1 b2 b3 b4 KT KND HKT HW4 HB4 HR4 HX4 hsz4 hW5 hne
   rw [if_pos (by rfl)]
   go_simp
   go_wp2_with (go_at_call 73;refine (KW.out W5 HR5.out (by omega)).mono ?_;rintro e w7 ⟨rfl,hr7,hk7⟩;have HR7:=Hd hr7;have HB7:=Hd (HB5.out.trans (hk7.below (Nat.le_of_lt hsz5) (by omega)));have hsz7:W3.heap.size < w7.heap.size:=Nat.lt_of_lt_of_le hsz5 hk7.size;clear hr7 hk7)
   go_roundw
   case rel=>exact ⟨k+1,by go_num,by omega,by rw [HL.out];exact HR7.out,HB7,hsz7⟩
   case measure=>simp [intOf];omega
theorem leastN (s:ByteArray) (W:World) (h:s.size≤maxLen):Calls Tryz.prog 24 #[.string s] W fun e w'=>e=.returned (.int .i64 ((leastOf (wordsW s):Nat):Int))∧Below W.heap.size W w':=implTxtLeast s h W
set_option maxRecDepth 100000 in
set_option maxHeartbeats 1000000 in
theorem implColLeast (ac ar:Option Addr) (cc cr:Nat) (t:T) (hD:Drawn t) (w:World) {z:Nat} (hc:ColsAt w z (.slice ac t.cols.length cc) t.cols) (hr:RowsAt w z (.slice ar t.rows.length cr) t.rows) :
  Calls Tryz.prog 13 #[.agg #[.slice ac t.cols.length cc,.int .i64 t.head,.int .i64 t.foot,.slice ar t.rows.length cr,.int .i64 t.gap]] w fun e w'=>∃ v,e=.returned v∧RowI w' w.heap.size w'.heap.size v (leastL t)∧Below w.heap.size w w':=by
 obtain ⟨_,C,hgc,hC,_⟩:=cel_of hD
 have HCN:=Hd (colN_of hgc)
 have HL:Hid (fixTo t.cols (needL t (leastP t)) C=leastL t):=by rw [Hid,leastL,HCN.out]
 have hNL:needTo (fun x=>((leastOf (wordsW (textOf t x)):Nat):Int)) t.gap (gOf t).cells (zeroL C) 4=needL t (leastP t):=by unfold needL;rw [HCN.out];rfl
 have hlen:=needL_len t (leastP t)
 rw [HCN.out] at hlen
 have HUp:=Hd (needL_up hD (fun x=>(leastP_le t x).2))
 have HSd:=Hd (fun k (hk:k < C)=>sd_small (t:=t) (k:=k) (by rw [HCN.out];exact hk))
 have hmx:Tryz.prog.follows .mixedOrders=true:=by kernel_rfl
 have HK0:=Hd (k_alloc (Below.refl w.heap.size w) (.cells #[.slice ac t.cols.length cc,.int .i64 t.head,.int .i64 t.foot,.slice ar t.rows.length cr,.int .i64 t.gap] 26))
 have HX:=Hd (newestB w (.cells #[.slice ac t.cols.length cc,.int .i64 t.head,.int .i64 t.foot,.slice ar t.rows.length cr,.int .i64 t.gap] 26))
 have HT:=Hd (And.intro (hc.kept HK0.out) (hr.kept HK0.out))
 have hs1:(w.alloc (.cells #[.slice ac t.cols.length cc,.int .i64 t.head,.int .i64 t.foot,.slice ar t.rows.length cr,.int .i64 t.gap] 26)).heap.size=w.heap.size+1:=by simp
 have KE:=Hd (fun W h1 h2=>wideEnough_TxtLeast (fun s=>((leastOf (wordsW s):Nat):Int)) (fun s=>by have:=leastOf_le (wordsW s);omega) leastN ac ar cc cr t hD W (z:=z) h1 h2 C hgc)
 rw [hNL] at KE
 generalize needL t (leastP t)=L at KE HL hlen HUp
 clear hNL hc hr hD hgc
 go_enter Tryz.func13,Tryz.ntmps13
 go_upto_region 1 with fail
 generalize w.alloc (.cells #[.slice ac t.cols.length cc,.int .i64 t.head,.int .i64 t.foot,.slice ar t.rows.length cr,.int .i64 t.gap] 26)=W1 at HK0 HX HT hs1 ⊢
 have b0:W1.cell? ⟨w.heap.size,0,none⟩=some (.slice ac t.cols.length cc):=cellB HX.out
 have b1:W1.cell? ⟨w.heap.size,1,none⟩=some (.int .i64 t.head):=cellB HX.out
 have b2:W1.cell? ⟨w.heap.size,2,none⟩=some (.int .i64 t.foot):=cellB HX.out
 have b3:W1.cell? ⟨w.heap.size,3,none⟩=some (.slice ar t.rows.length cr):=cellB HX.out
 have b4:W1.cell? ⟨w.heap.size,4,none⟩=some (.int .i64 t.gap):=cellB HX.out
 go_wp2_with fail
 refine (KE.out _ HT.out.1 HT.out.2).mono ?_
 rintro e w2 ⟨v2,rfl,hR2,hb2⟩
 obtain ⟨a2,c2,rfl⟩:=hR2.form
 rw [hlen] at hR2 ⊢
 have HR2:=Hd hR2
 have HB2:=Hd hb2
 have hz2:w.heap.size+1≤w2.heap.size:=by have:=hb2.size;omega
 clear hR2 hb2 b0 b1 b2 b3 b4 KE
 go_wp2_with fail
 go_loopw [10] (fun s W=>∃ k:Nat,s=.int .i64 k∧k≤C∧Hid (RowI W W1.heap.size w2.heap.size (.slice a2 C c2) (fixTo t.cols L k))∧Hid (Below W1.heap.size W1 W)∧w2.heap.size≤W.heap.size) (fun s _=>C - (intOf s).toNat)
 case atStart=>exact ⟨0,rfl,Nat.zero_le _,HR2,HB2,Nat.le_refl _⟩
 case round =>
  clear HR2 HB2
  obtain ⟨k,rfl,hk,HR,HB,hsz⟩:=hrel
  by_cases hlt:k < C
  case neg =>
   obtain rfl:k=C:=by omega
   have HF:=Hd (HR.out.base (B':=w.heap.size) (D':=wr.heap.size) (by omega) hsz)
   have HK:=Hd (HK0.out.trans (HB.out.mono (by omega)))
   go_wp2
   go_ret
   exact ⟨_,rfl,by rw [← HL.out];exact HF.out,HK.out⟩
  have X0:=(HB.out.block w.heap.size (by omega)).trans HX.out
  have b0:wr.cell? ⟨w.heap.size,0,none⟩=some (.slice ac t.cols.length cc):=cellB X0
  have hwz:w.heap.size < wr.heap.size:=by omega
  have KS:=Hd (implsaidOf _ t.cols (k:Int) wr (HT.out.1.kept HB.out))
  obtain ⟨g,cap',e',hBg,hgD,hgw,hc1,hc2,hx,hf⟩:=HR.out.get (i:=k) (by rw [fixTo_len];omega)
  rw [fixTo_len,hlen] at e' hc1
  simp only [Value.slice.injEq,true_and] at e'
  obtain ⟨rfl,rfl⟩:=e'
  unfold maxLen at hc2
  have hxb:=HUp.out k (by omega)
  rw [fixTo_out t.cols L k (Nat.le_refl _)] at hx
  have hsd:=HSd.out k hlt
  have HYes:Hid ((sd t.cols k).1=1→fixTo t.cols L (k+1)=(fixTo t.cols L k).set k (max (L.getD k 0) (sd t.cols k).2)):=fun h=>by rw [fixTo,if_pos h,fixTo_out t.cols L k (Nat.le_refl _)]
  have HNo:Hid ((sd t.cols k).1 ≠ 1→fixTo t.cols L (k+1)=fixTo t.cols L k):=fun h=>by rw [fixTo,if_neg h]
  generalize sd t.cols k=p at KS hsd HYes HNo
  clear X0
  by_cases hp:p.1=1
  case neg =>
   have hpb:(p.1 == 1)=false:=by simpa using hp
   have HF:=Hd (HNo.out hp)
   clear HNo HYes hsd hp
   go_wp2_with fail
   refine KS.out.mono ?_
   rintro e w3 ⟨rfl,hb3⟩
   have HK3:=Hd hb3
   clear hb3
   go_wp2
   go_roundw
   case rel=>exact ⟨k+1,by go_num,by omega,by rw [HF.out];exact HR.out.kept (fun j h0 _ _=>(Below.heap_alloc _ _ _ (Nat.lt_of_lt_of_le h0 HK3.out.size)).trans (HK3.out.block j h0)),k_alloc (HB.out.trans (HK3.out.mono HB.out.size)) _,by have:=HK3.out.size;simp;omega⟩
   case measure=>simp [intOf];omega
  have HF:=Hd (HYes.out hp)
  have hq:=hsd hp
  clear HNo HYes hsd
  obtain ⟨p1,p2⟩:=p
  obtain rfl:p1=1:=hp
  have hq:0≤p2∧p2≤60:=hq
  dsimp only at KS HF
  go_wp2_with fail
  refine KS.out.mono ?_
  rintro e w3 ⟨rfl,hb3⟩
  have HX3:=Hd (newestB w3 (.cells #[.int .i64 1,.int .i64 p2] 45))
  have HB3:=Hd (k_alloc (HB.out.trans (hb3.mono HB.out.size)) (.cells #[.int .i64 1,.int .i64 p2] 45))
  have HR3:=Hd (HR.out.kept (fun j h0 _ _=>(Below.heap_alloc w3 (.cells #[.int .i64 1,.int .i64 p2] 45) j (Nat.lt_of_lt_of_le h0 hb3.size)).trans (hb3.block j h0)))
  have hsz3:w2.heap.size≤(w3.alloc (.cells #[.int .i64 1,.int .i64 p2] 45)).heap.size:=by have:=hb3.size;simp;omega
  clear hb3 HR HB hx hf b0
  go_upto_region 7 with fail
  generalize w3.alloc (.cells #[.int .i64 1,.int .i64 p2] 45)=W3 at HX3 HB3 HR3 hsz3 ⊢
  generalize w3.heap.size=cb at HX3 ⊢
  obtain ⟨g3,cap3,e3,hBg3,hgD3,hgw3,hc13,hc23,hx3,hf3⟩:=HR3.out.get (i:=k) (by rw [fixTo_len];omega)
  rw [fixTo_len,hlen] at e3
  simp only [Value.slice.injEq,Option.some.injEq,Addr.mk.injEq,and_true] at e3
  obtain ⟨rfl,_,rfl⟩:=e3
  rw [fixTo_out t.cols L k (Nat.le_refl _)] at hx3
  have hcb:cb < W3.heap.size:=(bL HX3.out)
  have hne:=bw_some W3
  have q1:=bw_cell (a:=⟨cb,1,none⟩) hcb (cellB (p:=1) HX3.out)
  have q2:=bw_cell (a:=⟨g,k,none⟩) hgw3 hx3
  have HN:=Hd (fun W (h:Below W3.heap.size W3 W)=>(HR3.out.kept (fun j h0 _ _=>h.block j h0)).set (i:=k) (by rw [fixTo_len];omega) (max (L.getD k 0) p2))
  rw [← HF.out] at HN
  generalize L.getD k 0=y at hxb hx3 q2 HN
  clear hx3 hf3 hc13 hc23 HF
  refine wp_region_last 10 hmx (by rfl) (by rfl) (by kernel_rfl) (by kernel_rfl) ?_
  simp only [List.take_succ_cons,List.take_zero]
  repeat (go_big_quiet_step (fail))
  refine wpQuiet_nil ?_
  intro W5 hw'
  obtain ⟨⟨Wx,hW5⟩,hw''⟩:=hw'
  subst hw''
  have HN5:=Hd (HN.out _ hW5)
  have HB5:=Hd (k_set (HB3.out.trans (hW5.mono HB3.out.size)) (p:=⟨g,k,none⟩) hBg (.int .i64 (max y p2)))
  have hf5:=(HR3.out.kept (fun j h0 _ _=>hW5.block j h0)).get (i:=k) (by rw [fixTo_len];omega)
  obtain ⟨g5,cap5,e5,_,_,hgw5,_,_,hx5,hf5⟩:=hf5
  simp only [Value.slice.injEq,Option.some.injEq,Addr.mk.injEq,and_true] at e5
  have eg:=e5.1
  clear e5
  subst eg
  have hsz5:w2.heap.size≤(W5.setCell ⟨g,k,none⟩ (.int .i64 (max y p2))).heap.size:=by rw [sizeSet];have:=hW5.size;omega
  clear q1 q2 HN HB3 HR3 hW5 hne
  rw [if_pos (by rfl)]
  go_simp
  go_wp2
  go_roundw
  case rel=>exact ⟨k+1,by go_num,by omega,HN5,HB5,hsz5⟩
  case measure=>simp [intOf];omega
end Go.Proofs.YtggmjiddadjilaeGreat
