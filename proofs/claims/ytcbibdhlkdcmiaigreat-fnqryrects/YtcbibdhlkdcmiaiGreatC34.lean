/-
  PROVED HERE: how high the rows of a drawn table are, as a list; what the program adds to a row is what is lacking. Also: 8 more texts of the same proof.
-/
import Derived.Test.YtcbibdhlkdcmiaiGreatC32
import Derived.Test.YtcbibdhlkdcmiaiGreatC33
import Derived.Test.YtcbibdhlkdcmiaiGreatC25
import Derived.Test.YtcbibdhlkdcmiaiGreatC23
import Derived.Test.YtcbibdhlkdcmiaiGreatC13
import Derived.Test.YtcbibdhlkdcmiaiGreatC29
import Derived.Test.YtcbibdhlkdcmiaiGreatC24
import Derived.Deep.DeepCutAuto
import Derived.Deep.RegionWith
import Derived.Deep.QuietTactic
import Derived.BigQuiet
namespace Go.Proofs.YtcbibdhlkdcmiaiGreat
open Go.RowKit
def rowsOfT (t:T) (l:List Int):List Int:=rowsL (rcs (gOf t).cells (linesL t l (gOf t).cells)) t.rows.length
def rowsT (t:T) (width:Int):List Int:=if (tblB t && inB width 0 300)=true then rowsOfT t (widL t width) else []
theorem gRows {t:T} (hok:tblB t=true):(gOf t).rows=(t.rows.length:Nat):=by rw [gOf_ok hok]
theorem gCell {t:T} (hD:Drawn t) (hok:tblB t=true):∀ k,k < (gOf t).cells.length→∃ a m:Nat,((gOf t).cells.getD k dG).row=a∧((gOf t).cells.getD k dG).rows=m∧1≤m∧a+m≤t.rows.length:=by
 intro k hk
 have hl:=low_of hok hD
 rw [gOf_ok hok] at hk ⊢
 have hs:=stands_of hl (getD_mem' (d:=dG) (show k < (gridOf t).length from hk))
 unfold Stands at hs
 exact ⟨((gridOf t).getD k dG).row.toNat,((gridOf t).getD k dG).rows.toNat,by show ((gridOf t).getD k dG).row=_;omega,by show ((gridOf t).getD k dG).rows=_;omega,by omega,by omega⟩
theorem gMono {t:T} (hD:Drawn t) (hok:tblB t=true) (j:Nat):∀ k,j≤k→k < (gOf t).cells.length→((gOf t).cells.getD j dG).row≤((gOf t).cells.getD k dG).row
 | 0,h,_=>by
  obtain rfl:j=0:=by omega
  exact Int.le_refl _
 | k+1,h,hk=>by
  rcases Nat.lt_or_ge k j with h1 | h1
  ·obtain rfl:j=k+1:=by omega
   exact Int.le_refl _
  ·have ih:=gMono hD hok j k h1 (by omega)
   have hl:=low_of hok hD
   have hk':k+1 < (gridOf t).length:=by rw [gOf_ok hok] at hk;exact hk
   have ha:=(laid_of hl hk').after (by omega)
   rw [gOf_ok hok] at ih ⊢
   have e1:(⟨(t.rows.length:Int),colsOf (max 1 (t.cols.length:Int)) (gridOf t),gridOf t⟩:G).cells=gridOf t:=rfl
   rw [e1] at ih ⊢
   have e2:k+1 - 1=k:=by omega
   rw [e2] at ha
   omega
theorem gLen {t:T} (hD:Drawn t):(gOf t).cells.length≤40:=(cel_of hD).1
theorem tRows {t:T} (hD:Drawn t) (hok:tblB t=true):t.rows.length≤8:=(low_of hok hD).rows
theorem lnAll (t:T) (l:List Int) (gs:List GC):∀ k,k < gs.length→((linesL t l gs).getD k []).length≤1000:=fun k hk=>by
 rw [linesL_get t l hk]
 have:=lnsOf_len t l (gs.getD k dG)
 omega
theorem rc_le (t:T) (l:List Int) (gs:List GC):∀ c ∈ rcs gs (linesL t l gs),c.2.2≤1000:=rcs_all (linesL_len t l gs) (fun k hk=>by have:=lnAll t l gs k hk;show (((linesL t l gs).getD k []).length:Int)≤1000;omega)
theorem high_span {l:List Int} {x:GC} {a m:Nat} (hr:x.row=a) (hm:x.rows=m) (h1:1≤m) (h2:a+m≤l.length) (hb:-9223372036854775808≤sumTo l (a+m) - sumTo l a∧sumTo l (a+m) - sumTo l a≤9223372036854775807):highV l x=sumTo l (a+m) - sumTo l a:=by
 obtain ⟨e1,e2⟩:=own_span (l:=l) (x:=hgtG x) (c:=a) (m:=m) hr hm l.length (Nat.le_refl _)
 have e3:min l.length (a+m)=a+m:=by omega
 have e4:min l.length a=a:=by omega
 rw [e3,e4] at e2
 unfold highV cellV
 rw [acrV_cons (by rw [e1];omega),e2,Int.zero_mul,Int.add_zero,W_small hb]
theorem sum_hs (cs:List RCell) (R r k:Nat) {a:Nat} (ha:a≤r):sumTo (hsL cs R r k) (r+1) - sumTo (hsL cs R r k) a=(rowsL cs r).sum - sumTo (rowsL cs r) a+curV cs r k:=by
 have h1:sumTo (hsL cs R r k) a=sumTo (rowsL cs r) a:=by
  rw [sumTo,sumTo,hsL,List.take_append_of_le_length (by rw [rowsL_len];exact ha)]
 have h2:sumTo (hsL cs R r k) (r+1)=(rowsL cs r).sum+curV cs r k:=by
  rw [sumTo,hsL,List.take_append,rowsL_len,show r+1 - r=1 by omega,List.take_of_length_le (by rw [rowsL_len];omega)]
  simp
 rw [h1,h2]
 omega
theorem span_le {cs:List RCell} (hc:∀ c ∈ cs,c.2.2≤1000) {r:Nat} (hr:r≤88) (a:Nat):0≤(rowsL cs r).sum - sumTo (rowsL cs r) a∧(rowsL cs r).sum - sumTo (rowsL cs r) a≤88000:=by
 refine ⟨span_nn (rows_nn cs r) a,?_⟩
 have h1:(rowsL cs r).sum=((rowsL cs r).take a).sum+((rowsL cs r).drop a).sum:=by rw [← List.sum_append,List.take_append_drop]
 have h2:=sum_upM (l:=(rowsL cs r).drop a) (fun x hx=>⟨rows_nn cs r x (List.mem_of_mem_drop hx),rows_max (by omega) cs hc r x (List.mem_of_mem_drop hx)⟩)
 rw [List.length_drop,rowsL_len] at h2
 rw [sumTo]
 omega
theorem high_hs {cs:List RCell} (hc:∀ c ∈ cs,c.2.2≤1000) {R r k:Nat} (hR:R≤88) (hr:r < R) {x:GC} {a m:Nat} (hrx:x.row=a) (hmx:x.rows=m) (h1:1≤m) (h2:a+m=r+1):highV (hsL cs R r k) x=(rowsL cs r).sum - sumTo (rowsL cs r) a+curV cs r k:=by
 have hs:=sum_hs cs R r k (show a≤r by omega)
 have hb:=span_le hc (r:=r) (by omega) a
 have hcb:=cur_bound (by omega) hc r k
 rw [← h2] at hs
 rw [high_span hrx hmx h1 (by rw [hsL_len cs k hr];omega) (by rw [hs];omega),hs]
theorem hs_late {cs:List RCell} {R r k:Nat} (h:∀ j,k≤j→j < cs.length→∀ c,cs[j]?=some c→r < c.1∧1≤c.2.1):hsL cs R r k=hsL cs R r cs.length:=by
 have e:curV cs r cs.length=curV cs r k:=by
  rw [curV,List.take_length,curV]
  have h2:∀ f:Int→RCell→Int,cs.foldl f 0=(cs.drop k).foldl f ((cs.take k).foldl f 0):=fun f=>by rw [← List.foldl_append,List.take_append_drop]
  rw [h2]
  refine fold_late _ _ _ (fun c hc=>?_)
  rw [rowsL_len]
  obtain ⟨i,hi,e⟩:=List.mem_iff_getElem.mp hc
  rw [List.length_drop] at hi
  refine h (k+i) (by omega) (by omega) c ?_
  rw [List.getElem?_eq_getElem (by omega),← e,List.getElem_drop]
 rw [hsL,hsL,e]
theorem sumTo_small {l:List Int} (h:∀ x ∈ l,0≤x∧x≤1000) (k:Nat):0≤sumTo l k∧sumTo l k≤1000 * (l.length:Int):=by
 have h1:=sum_nn (l:=l.take k) (fun x hx=>(h x (List.mem_of_mem_take hx)).1)
 have h2:=sum_upM (l:=l.take k) (fun x hx=>h x (List.mem_of_mem_take hx))
 rw [List.length_take] at h2
 rw [sumTo]
 omega
theorem rows_small {cs:List RCell} (hc:∀ c ∈ cs,c.2.2≤1000) (R:Nat):∀ x ∈ rowsL cs R,0≤x∧x≤1000:=fun x hx=>⟨rows_nn cs R x hx,rows_max (by omega) cs hc R x hx⟩
structure HgF (t:T) (RL:List Int) (LL:List (List ByteArray)):Prop where
 len:RL.length=t.rows.length
 lln:LL.length=(gOf t).cells.length
 hold:∀ k,k < (gOf t).cells.length→¬ highV RL ((gOf t).cells.getD k dG) < ((LL.getD k []).length:Int)
 need:∀ r,r < t.rows.length→RL.getD r 0=0∨∃ k,k < (gOf t).cells.length∧(r:Int)=((gOf t).cells.getD k dG).row+((gOf t).cells.getD k dG).rows - 1∧highV RL ((gOf t).cells.getD k dG)=((LL.getD k []).length:Int)
 small:∀ k,k < (gOf t).cells.length→(0≤((gOf t).cells.getD k dG).row∧((gOf t).cells.getD k dG).row≤8)∧1≤((gOf t).cells.getD k dG).rows∧((gOf t).cells.getD k dG).rows≤8
def needB (P:Nat→Bool) (b:Bool):Nat→Bool
 | 0=>b
 | k+1=>needB P b k || P k
def natL (js:List Nat):List Int:=js.map (fun k:Nat=>(k:Int))
theorem natL_len (js:List Nat):(natL js).length=js.length:=by simp [natL]
theorem natL_get {js:List Nat} {k:Nat} (h:k < js.length):(natL js).getD k 0=((js.getD k 0:Nat):Int):=by simp [natL,List.getD,h]
theorem natL_snoc (js:List Nat) (k:Nat):natL (js ++ [k])=natL js ++ [(k:Int)]:=by simp [natL]
theorem selN_yes {P:Nat→Bool} {n:Nat} (h:P n=true):selN P (n+1)=selN P n ++ [n]:=by rw [selN_succ,if_pos h]
theorem selN_no {P:Nat→Bool} {n:Nat} (h:P n=false):selN P (n+1)=selN P n:=by rw [selN_succ,if_neg (by rw [h];simp),List.append_nil]
theorem selN_le (P:Nat→Bool) (n:Nat):(selN P n).length≤n:=by unfold selN;exact Nat.le_trans (List.length_filter_le _ _) (by simp)
theorem selN_lt {P:Nat→Bool} {n k:Nat} (h:k < (selN P n).length):(selN P n).getD k 0 < n∧P ((selN P n).getD k 0)=true:=by
 have e:(selN P n).getD k 0=(selN P n)[k]:=by simp [List.getD,h]
 rw [e]
 exact selN_get h
def fillL (l:List Int) (k:Nat):List Int:=l.take k ++ List.replicate (l.length - k) 0
theorem fillL_len (l:List Int) {k:Nat} (h:k≤l.length):(fillL l k).length=l.length:=by simp [fillL];omega
theorem fillL_zero (l:List Int):fillL l 0=List.replicate l.length 0:=by simp [fillL]
theorem fillL_all (l:List Int):fillL l l.length=l:=by simp [fillL]
theorem fillL_succ {l:List Int} {k:Nat} (h:k < l.length):fillL l (k+1)=(fillL l k).set k (l.getD k 0):=by
 have e:List.replicate (l.length - k) (0:Int)=0 :: List.replicate (l.length - (k+1)) 0:=by
  rw [show l.length - k=(l.length - (k+1))+1 by omega,List.replicate_succ]
 have hl:(l.take k).length=k:=by rw [List.length_take];omega
 unfold fillL
 rw [e,List.set_append_right _ _ (by omega),hl,Nat.sub_self,List.set_cons_zero,List.take_succ_eq_append_getElem h,show l.getD k 0=l[k] by simp [List.getD,h],List.append_assoc]
 rfl
structure Bk2 (r s:Nat) (w w':World):Prop where
 os:w'.os=w.os
 tape:w'.tape=w.tape
 output:w'.output=w.output
 size:w.heap.size≤w'.heap.size
 block:∀ k,k < w.heap.size→k ≠ r→k ≠ s→w'.heap[k]?=w.heap[k]?
theorem Bk2.refl (r s:Nat) (w:World):Bk2 r s w w:=⟨rfl,rfl,rfl,Nat.le_refl _,fun _ _ _ _=>rfl⟩
theorem Bk2.trans {r s:Nat} {a b c:World} (h:Bk2 r s a b) (k:Bk2 r s b c):Bk2 r s a c :=
 ⟨k.os.trans h.os,k.tape.trans h.tape,k.output.trans h.output,Nat.le_trans h.size k.size,fun i hi hr hs=>(k.block i (Nat.lt_of_lt_of_le hi h.size) hr hs).trans (h.block i hi hr hs)⟩
theorem Bk2.of_below {r s:Nat} {w w':World} (h:Below w.heap.size w w'):Bk2 r s w w':=⟨h.os,h.tape,h.output,h.size,fun k hk _ _=>h.block k hk⟩
theorem Bk2.set {r s:Nat} {a w:World} (h:Bk2 r s a w) {p:Addr} (hp:p.block=r∨p.block=s) (u:Value):Bk2 r s a (w.setCell p u) :=
 ⟨h.os,h.tape,h.output,by simpa [World.setCell] using h.size,fun k hk hr hs=>(Below.heap_setCell _ _ _ _ (by omega)).trans (h.block k hk hr hs)⟩
theorem Bk2.below {r s:Nat} {w w':World} (h:Bk2 r s w w') {n:Nat} (hn:n≤w.heap.size) (hr:n≤r) (hs:n≤s):Below n w w':=⟨h.os,h.tape,h.output,h.size,fun k hk=>h.block k (by omega) (by omega) (by omega)⟩
theorem RowI.bk2 {w w':World} {B D r s:Nat} {v:Value} {l:List Int} (h:RowI w B D v l) (k:Bk2 r s w w') (hr:r < B∨D≤r) (hs:s < B∨D≤s):RowI w' B D v l:=h.kept (fun j h0 h1 h2=>k.block j h0 (by omega) (by omega))
def Sp (W:World) (sb:Nat) (ac ar:Option Addr) (cc cr:Nat) (t:T) (width:Int) (g cap C:Nat) (left:Int):Prop :=
 W.heap[sb]?=some (.cells #[.slice ac t.cols.length cc,.int .i64 t.head,.int .i64 t.foot,.slice ar t.rows.length cr,.int .i64 t.gap,.int .i64 width,.slice (some ⟨g,0,none⟩) C cap,.int .i64 left] 108)
theorem Sp.lt {W:World} {sb:Nat} {ac ar:Option Addr} {cc cr:Nat} {t:T} {width:Int} {g cap C:Nat} {left:Int} (h:Sp W sb ac ar cc cr t width g cap C left):sb < W.heap.size:=(bL h)
theorem Sp.kept {W W':World} {sb:Nat} {ac ar:Option Addr} {cc cr:Nat} {t:T} {width:Int} {g cap C:Nat} {left:Int} (h:Sp W sb ac ar cc cr t width g cap C left) (k:Below W.heap.size W W'):Sp W' sb ac ar cc cr t width g cap C left:=(k.block sb h.lt).trans h
theorem Sp.other {W:World} {sb:Nat} {ac ar:Option Addr} {cc cr:Nat} {t:T} {width:Int} {g cap C:Nat} {left:Int} (h:Sp W sb ac ar cc cr t width g cap C left) {p:Addr} (hp:sb ≠ p.block) (u:Value):Sp (W.setCell p u) sb ac ar cc cr t width g cap C left:=(Below.heap_setCell _ _ _ _ hp).trans h
theorem Sp.left {W:World} {sb:Nat} {ac ar:Option Addr} {cc cr:Nat} {t:T} {width:Int} {g cap C:Nat} {left:Int} (h:Sp W sb ac ar cc cr t width g cap C left) (x:Int):Sp (W.setCell ⟨sb,7,none⟩ (.int .i64 x)) sb ac ar cc cr t width g cap C x:=(setB h (p:=7) (.int .i64 x)).trans (by simp)
theorem giveTo_small {l:List Int} {js:List Nat} {g:List Int} {M N:Int} (hM:0≤M) (hl:∀ i,0≤l.getD i 0∧l.getD i 0≤M) (hg:∀ i,0≤g.getD i 0∧g.getD i 0≤N):∀ (k:Nat) (i:Nat),0≤(giveTo l js g k).getD i 0∧(giveTo l js g k).getD i 0≤M+k * N
 | 0,i=>by have:=hl i;simp only [giveTo];omega
 | k+1,i=>by
  have h0:=giveTo_small (js:=js) hM hl hg k i
  have h1:=giveTo_small (js:=js) hM hl hg k (js.getD k 0)
  have h2:=hg k
  have e:((k+1:Nat):Int) * N=k * N+N:=by rw [Int.natCast_add,Int.add_mul];simp
  rw [e]
  simp only [giveTo]
  generalize js.getD k 0=j at h1 ⊢
  generalize giveTo l js g k=L at h0 h1 ⊢
  generalize g.getD k 0=x at h2 ⊢
  by_cases hi:i=j
  ·subst hi
   by_cases hlen:i < L.length
   ·have e2:(L.set i (L.getD i 0+x)).getD i 0=L.getD i 0+x:=by rw [List.getD,List.getElem?_set_self hlen,Option.getD_some]
    rw [e2]
    omega
   ·rw [List.set_eq_of_length_le (by omega)]
    omega
  ·have e2:(L.set j (L.getD j 0+x)).getD i 0=L.getD i 0:=by rw [List.getD,List.getElem?_set_ne (Ne.symm hi)];rfl
   rw [e2]
   omega
theorem all_wt {l:List Int} (h:∀ i,i < l.length→0≤l.getD i 0∧l.getD i 0≤100000):l.all wtB=true:=by
 rw [List.all_eq_true]
 intro x hx
 obtain ⟨i,hi,rfl⟩:=List.mem_iff_getElem.1 hx
 have:=h i hi
 rw [show l.getD i 0=l[i] by simp [List.getD,hi]] at this
 simp only [wtB,decide_eq_true_eq]
 exact this
theorem upTo_small {left:Int} {l:List Int} (hok:shrOkB left l=true):(upToL left l).all wtB=true:=by
 obtain ⟨l1,_,_,_,e1⟩:=upTo_total hok
 obtain ⟨_,_,hw⟩:=shrOk_parts hok
 exact all_wt (fun i hi=>by have:=e1 i (by omega);have:=wt_get hw (i:=i) (by omega);omega)
theorem step_lists {L want:List Int} {P:Nat→Bool} {left:Int} (hl:want.length=L.length) (hok:shrOkB left want=true) (hz:∀ i,i < want.length→P i=false→want.getD i 0=0) :
  shrOkB left (selL want P L.length)=true∧(upToL left (selL want P L.length)).length=(selN P L.length).length∧(upToL left (selL want P L.length)).all wtB=true∧left - (upToL left (selL want P L.length)).sum=upToN left want ∧
  giveTo L (selN P L.length) (upToL left (selL want P L.length)) (selN P L.length).length=addL L (upToL left want):=by
 have hok':shrOkB left (selL want P L.length)=true:=by rw [← hl];exact sel_ok hok
 obtain ⟨e1,e2⟩:=upTo_sel hok hz
 rw [hl] at e1 e2
 obtain ⟨a1,a2,a3,a4,a5⟩:=upTo_total hok
 obtain ⟨b1,b2,b3,b4,b5⟩:=upTo_total hok'
 refine ⟨hok',by rw [b1,selL_len],upTo_small hok',by rw [← e2];omega,?_⟩
 rw [e1]
 refine give_all (by omega) (fun i hi hP=>?_)
 have:=a5 i (by omega)
 rw [hz i (by omega) hP] at this
 omega
structure SpS (w0:World) (sb:Nat) (ac ar:Option Addr) (cc cr:Nat) (t:T) (width:Int) (g cap C D:Nat) (left:Int) (L:List Int) (W:World):Prop where
 bel:Below w0.heap.size w0 W
 sp:Sp W sb ac ar cc cr t width g cap C left
 row:RowI W w0.heap.size D (.slice (some ⟨g,0,none⟩) C cap) L
theorem SpS.kept {w0:World} {sb:Nat} {ac ar:Option Addr} {cc cr:Nat} {t:T} {width:Int} {g cap C D:Nat} {left:Int} {L:List Int} {W W':World} (h:SpS w0 sb ac ar cc cr t width g cap C D left L W) (k:Below W.heap.size W W'):SpS w0 sb ac ar cc cr t width g cap C D left L W' :=
 ⟨k_trans h.bel k,h.sp.kept k,h.row.kept (fun j h0 _ _=>k.block j h0)⟩
theorem SpS.bk {w0:World} {sb:Nat} {ac ar:Option Addr} {cc cr:Nat} {t:T} {width:Int} {g cap C D r:Nat} {left:Int} {L:List Int} {W W':World} (h:SpS w0 sb ac ar cc cr t width g cap C D left L W) (k:Bk r W W') (hr:w0.heap.size≤r) (h1:r ≠ sb) (h2:D≤r):SpS w0 sb ac ar cc cr t width g cap C D left L W' :=
 ⟨h.bel.trans (k.below h.bel.size hr),(k.block sb h.sp.lt (Ne.symm h1)).trans h.sp,h.row.kept (fun j h0 _ h3=>k.block j h0 (by omega))⟩
theorem kind_eq (t:T) (q:Int) (k:Nat):((sd t.cols k).1 == q)=kindP t q k:=by rw [Bool.eq_iff_iff];simp [kindP]
set_option maxRecDepth 100000 in
set_option maxHeartbeats 1000000 in
theorem implofKind (sb:Nat) (ac ar:Option Addr) (cc cr:Nat) (t:T) (width:Int) (g cap C:Nat) (left q:Int) (hC:C≤88) (w:World) {z:Nat} (hS:Sp w sb ac ar cc cr t width g cap C left) (hc:ColsAt w z (.slice ac t.cols.length cc) t.cols) :
  Calls Tryz.prog 110 #[.pointer (some ⟨sb,0,none⟩),.int .i64 q] w fun e w'=>∃ v,e=.returned v∧RowI w' w.heap.size w'.heap.size v (natL (selN (kindP t q) C))∧Below w.heap.size w w':=by
 obtain ⟨i0,hi,hz0,hz1,hz2⟩:=info_parts infoIc
 have hf0:=field0
 have HS:=Hd hS
 have HC:=Hd hc
 have s6:w.cell? ⟨sb,6,none⟩=some (.slice (some ⟨g,0,none⟩) C cap):=cellB hS
 clear hS hc
 go_enter Tryz.func110,Tryz.ntmps110
 go_wp2_with fail
 clear s6
 go_loopw [5,12] (fun o i W=>∃ k:Nat,i=.int .i64 k∧k≤C∧Hid (W.ownsRow w.heap.size 3 1 o (natL (selN (kindP t q) k)).length ((natL (selN (kindP t q) k)).map (Value.int .i64)))∧Hid (Below w.heap.size w W)) (fun _ i _=>C - (intOf i).toNat)
 case atStart=>exact ⟨0,rfl,Nat.zero_le _,⟨by simp [natL,selN],.inl ⟨rfl,by simp [natL,selN]⟩⟩,Below.refl _ _⟩
 case round =>
  obtain ⟨k,rfl,hk,HO,HB⟩:=hrel
  by_cases hlt:k < C
  case neg =>
   obtain rfl:k=C:=by omega
   have HR:=Hd (RowI.of_owns HO.out)
   go_wp2
   go_ret
   exact ⟨_,rfl,HR.out.base (Nat.le_refl _) (Nat.le_refl _),HB.out⟩
  have s0:wr.cell? ⟨sb,0,none⟩=some (.slice ac t.cols.length cc):=cellB (HS.out.kept HB.out)
  have KS:=Hd (implsaidOf _ t.cols (k:Int) wr (HC.out.kept HB.out))
  have hkq:=kind_eq t q k
  have hol:(natL (selN (kindP t q) k)).length≤k:=by rw [natL_len];exact selN_le _ _
  generalize sd t.cols k=p at KS hkq
  cases hp:kindP t q k with
  | false =>
   have HL:Hid (natL (selN (kindP t q) (k+1))=natL (selN (kindP t q) k)):=by rw [Hid,selN_no hp]
   rw [hp] at hkq
   clear hp
   go_wp2_with fail
   refine KS.out.mono ?_
   rintro e w1 ⟨rfl,hb1⟩
   have HB1:=Hd (k_trans HB.out hb1)
   have HO1:=Hd (RowI.of_owns HO.out |>.kept (fun j h0 _ _=>hb1.block j h0))
   clear hb1 s0
   go_wp2
   go_roundw
   case rel=>exact ⟨k+1,by go_num,by omega,by rw [HL.out];exact HO1.out.owns,HB1⟩
   case measure=>simp [intOf];omega
  | true =>
   have HL:Hid (natL (selN (kindP t q) (k+1))=natL (selN (kindP t q) k) ++ [(k:Int)]):=by rw [Hid,selN_yes hp,natL_snoc]
   rw [hp] at hkq
   clear hp
   generalize natL (selN (kindP t q) k)=xs at HO HL hol
   go_wp2_with fail
   refine KS.out.mono ?_
   rintro e w1 ⟨rfl,hb1⟩
   have HB1:=Hd (k_trans HB.out hb1)
   have hO4:=(RowI.of_owns HO.out |>.kept (fun j h0 _ _=>hb1.block j h0)).owns
   have hsz:w.heap.size≤w1.heap.size:=HB1.out.size
   clear hb1 s0
   go_wp2_with (at_builtin;refine wpList_append_own _ rfl _ _ 34 rfl w.heap.size 3 i0 (.int .i64 0) 1 8 Tryz.underlying34 hi hz0 hz1 hz2 rfl (by decide) _ _ _ rfl (hO4.alloc _) ⟨w1.heap.size,0,none⟩ 1 1 [.int .i64 (k:Int)] rfl rfl ?c1 ?c2 ?c3 ?c4 ?c5 ?_)
   case c1 =>
    intro i u hi
    match i,hi with
    | 0,hi=>simp at hi;subst hi;simp [Addr.add]
   case c2=>intro u hu;simp at hu;subst hu;rfl
   case c3=>unfold maxLen;omega
   case c4=>omega
   case c5=>simp;omega
   intro v' w5 hown' hgrow' _
   obtain ⟨hB5,_⟩:=app_keeps (Nat.le_refl _) hO4 HB1.out hgrow'
   have HB5:=Hd hB5
   have HO5:Hid (w5.ownsRow w.heap.size 3 1 v' (xs ++ [(k:Int)]).length ((xs ++ [(k:Int)]).map (Value.int .i64))):=by rw [List.length_append,List.map_append];exact hown'
   obtain ⟨g',cap'',rfl⟩:=Joins.ownsRow_form hown' (by omega)
   clear hown' hgrow' hO4 hB5 HO HB HB1
   go_wp2
   go_roundw
   case rel=>exact ⟨k+1,by go_num,by omega,by rw [HL.out];exact HO5,HB5⟩
   case measure=>simp [intOf];omega
end Go.Proofs.YtcbibdhlkdcmiaiGreat
namespace Go.Proofs.YtcbibdhlkdcmiaiGreat
open Go.RowKit Go.BigFrame
theorem getD_small {G:List Int} (h:G.all wtB=true) (i:Nat):0≤G.getD i 0∧G.getD i 0≤100000:=by
 by_cases hi:i < G.length
 ·exact wt_get h hi
 ·rw [show G.getD i 0=0 by simp [List.getD,hi]];omega
set_option maxRecDepth 100000 in
set_option maxHeartbeats 1000000 in
theorem implgive (sb:Nat) (ac ar:Option Addr) (cc cr:Nat) (t:T) (width:Int) (g cap C:Nat) (left:Int) (L G:List Int) (js:List Nat) (vc vg:Value) (B D B1:Nat) (hLC:L.length=C) (hjC:∀ k,k < js.length→js.getD k 0 < C) (hjl:js.length≤88) (hGl:G.length=js.length)
  (hLs:L.all wtB=true) (hGs:G.all wtB=true) (hl:0≤left∧left≤100000) (hgD:g < D) (hDs:D≤sb) (hs1:sb < B1) (w:World) (hS:Sp w sb ac ar cc cr t width g cap C left) (hR:RowI w B D (.slice (some ⟨g,0,none⟩) C cap) L) (h1:RowI w B1 w.heap.size vc (natL js)) (h2:RowI w B1 w.heap.size vg G) :
  Calls Tryz.prog 112 #[.pointer (some ⟨sb,0,none⟩),vc,vg] w fun e w'=>e=.returned (.tuple #[])∧Sp w' sb ac ar cc cr t width g cap C (left - G.sum)∧RowI w' B D (.slice (some ⟨g,0,none⟩) C cap) (giveTo L js G js.length)∧Bk2 g sb w w':=by
 have hmx:Tryz.prog.follows .mixedOrders=true:=by kernel_rfl
 obtain ⟨a1,c1,rfl⟩:=h1.form
 obtain ⟨a2,c2,rfl⟩:=h2.form
 rw [natL_len] at h1 ⊢
 rw [hGl] at h2 ⊢
 have HGl:=Hd hGl
 have H1:=Hd h1
 have H2:=Hd h2
 have HS:=Hd hS
 have HR:=Hd hR
 have HSm:=Hd (fun k i=>giveTo_small (js:=js) (M:=100000) (N:=100000) (by omega) (getD_small hLs) (getD_small hGs) k i)
 have HSu:=Hd (sumTo_bound hGs)
 have HGg:=Hd (getD_small hGs)
 have HjC:=Hd hjC
 have HE:Hid (left - G.sum=left - sumTo G js.length):=by rw [Hid,← hGl,sumTo_all]
 have HSu:Hid (∀ k,k≤js.length→0≤sumTo G k∧sumTo G k≤k * 100000):=fun k hk=>HSu.out k (by omega)
 clear h1 h2 hS hR hLs hGs hjC hGl
 go_enter Tryz.func112,Tryz.ntmps112
 go_wp2_with fail
 go_loopw [10] (fun s W=>∃ k:Nat,s=.int .i64 k∧k≤js.length∧Hid (Sp W sb ac ar cc cr t width g cap C (left - sumTo G k))∧Hid (RowI W B D (.slice (some ⟨g,0,none⟩) C cap) (giveTo L js G k))∧Hid (Bk2 g sb w W)) (fun s _=>js.length - (intOf s).toNat)
 case atStart=>exact ⟨0,rfl,Nat.zero_le _,by rw [show left - sumTo G 0=left by simp [sumTo]];exact HS,HR,Bk2.refl _ _ _⟩
 case round =>
  clear HS HR
  obtain ⟨k,rfl,hk,HS,HR,HB⟩:=hrel
  by_cases hlt:k < js.length
  case neg =>
   obtain rfl:k=js.length:=by omega
   go_wp2
   first
    | go_end0
    | skip
   exact ⟨rfl,by rw [HE.out];exact HS.out,HR.out,HB.out⟩
  obtain ⟨b1,c1',e1,hb1B,_,hb1w,hc11,hc12,hx1,_⟩:=(H1.out.bk2 HB.out (.inl (by omega)) (.inl hs1)).get (i:=k) (by rw [natL_len];exact hlt)
  rw [natL_len] at e1 hc11
  rw [natL_get hlt] at hx1
  simp only [Value.slice.injEq,true_and] at e1
  obtain ⟨rfl,rfl⟩:=e1
  obtain ⟨b2,c2',e2,hb2B,_,hb2w,hc21,hc22,hx2,_⟩:=(H2.out.bk2 HB.out (.inl (by omega)) (.inl hs1)).get (i:=k) (by rw [HGl.out];exact hlt)
  rw [HGl.out] at e2 hc21
  simp only [Value.slice.injEq,true_and] at e2
  obtain ⟨rfl,rfl⟩:=e2
  have hj:=HjC.out k hlt
  have hgs:=giveTo_len L js G k
  obtain ⟨g',cap',e3,hgB,_,hgw,hc31,hc32,hx3,hf3⟩:=HR.out.get (i:=js.getD k 0) (by omega)
  rw [hgs,hLC] at e3 hc31
  simp only [Value.slice.injEq,Option.some.injEq,Addr.mk.injEq,and_true,true_and] at e3
  obtain ⟨rfl,rfl⟩:=e3
  have hs3:=HSm.out k (js.getD k 0)
  have hy:=HGg.out k
  have hsu:=HSu.out k (by omega)
  have HG1:Hid (giveTo L js G (k+1)=(giveTo L js G k).set (js.getD k 0) ((giveTo L js G k).getD (js.getD k 0) 0+G.getD k 0)):=rfl
  have HG2:Hid (left - sumTo G (k+1)=left - sumTo G k - G.getD k 0):=by rw [Hid,sumTo_succ (by rw [HGl.out];exact hlt)];omega
  unfold maxLen at hc12 hc22 hc32
  have hne:=bw_some wr
  have m0:=bw_cell (a:=⟨sb,6,none⟩) HS.out.lt (cellB (p:=6) HS.out)
  have m1:=bw_cell (a:=⟨g,js.getD k 0,none⟩) hgw hx3
  have m2:=bw_cell (a:=⟨b2,k,none⟩) hb2w hx2
  generalize sumTo G k=su at HS hsu HG2
  generalize hjj:js.getD k 0=j at *
  generalize hxx:(giveTo L js G k).getD j 0=x at *
  generalize hyy:G.getD k 0=y at *
  clear hx2 hx3 hf3
  go_upto_region 3 with fail
  clear hx1
  refine wp_region_last 13 hmx (by rfl) (by rfl) (by kernel_rfl) (by kernel_rfl) ?_
  simp only [List.take_succ_cons,List.take_zero]
  repeat (go_big_quiet_step (fail))
  refine wpQuiet_nil ?_
  intro W5 hw'
  obtain ⟨⟨Wx,hW5⟩,hw''⟩:=hw'
  subst hw''
  have hlj:j < (giveTo L js G k).length:=by omega
  have HR5:=Hd ((HR.out.kept (fun i h0 _ _=>hW5.block i h0)).set (i:=j) hlj (x+y))
  rw [← HG1.out] at HR5
  have HS5:=Hd ((HS.out.kept hW5).other (p:=⟨g,j,none⟩) (show sb ≠ g by omega) (.int .i64 (x+y)))
  have HB5:=Hd ((HB.out.trans (Bk2.of_below hW5)).set (p:=⟨g,j,none⟩) (.inl rfl) (.int .i64 (x+y)))
  obtain ⟨g5,cap5,e5,_,_,hgw5,_,_,hx5,hf5⟩:=(HR.out.kept (fun i h0 _ _=>hW5.block i h0)).get (i:=j) hlj
  simp only [Value.slice.injEq,Option.some.injEq,Addr.mk.injEq,and_true] at e5
  have eg:=e5.1
  clear e5
  subst eg
  clear m0 m1 m2 hne hW5 HR HS HB HG1 hs3
  rw [if_pos (by rfl)]
  go_simp
  clear hx5 hf5
  go_upto_region 4 with fail
  generalize W5.setCell ⟨g,j,none⟩ (.int .i64 (x+y))=W6 at HR5 HS5 HB5 ⊢
  obtain ⟨b2',c2'',e2,_,_,hb2w',_,_,hx2,_⟩:=(H2.out.bk2 HB5.out (.inl (by omega)) (.inl hs1)).get (i:=k) (by rw [HGl.out];exact hlt)
  rw [HGl.out] at e2
  simp only [Value.slice.injEq,Option.some.injEq,Addr.mk.injEq,and_true,true_and] at e2
  obtain ⟨rfl,rfl⟩:=e2
  rw [hyy] at hx2
  have hne:=bw_some W6
  have m0:=bw_cell (a:=⟨sb,7,none⟩) HS5.out.lt (cellB (p:=7) HS5.out)
  have m2:=bw_cell (a:=⟨b2,k,none⟩) hb2w' hx2
  clear hx2
  refine wp_region_last 11 hmx (by rfl) (by rfl) (by kernel_rfl) (by kernel_rfl) ?_
  simp only [List.take_succ_cons,List.take_zero]
  repeat (go_big_quiet_step (fail))
  refine wpQuiet_nil ?_
  intro W7 hw'
  obtain ⟨⟨Wy,hW7⟩,hw''⟩:=hw'
  subst hw''
  have HR7:=Hd ((HR5.out.kept (fun i h0 _ _=>hW7.block i h0)).kept (w':=W7.setCell ⟨sb,7,none⟩ (.int .i64 (left - su - y))) (fun i _ _ h2=>Below.heap_setCell _ _ _ _ (show i ≠ sb by omega)))
  have HS7:=Hd ((HS5.out.kept hW7).left (left - su - y))
  have HB7:=Hd ((HB5.out.trans (Bk2.of_below hW7)).set (p:=⟨sb,7,none⟩) (.inr rfl) (.int .i64 (left - su - y)))
  have hq7:W7.cell? ⟨sb,7,none⟩=some (.int .i64 (left - su)):=cellB (p:=7) (HS5.out.kept hW7)
  have hf7:W7.frozen? ⟨sb,7,none⟩=false:=freeB (p:=7) (HS5.out.kept hW7)
  clear m0 m2 hne hW7 HR5 HS5 HB5
  rw [if_pos (by rfl)]
  go_simp
  go_wp2
  go_roundw
  case rel=>exact ⟨k+1,by go_num,by omega,by rw [HG2.out];exact HS7,HR7,HB7⟩
  case measure=>simp [intOf];omega
def restL (t:T) (C:Nat) (left:Int) (L:List Int):List Int :=
 if 0 < (selN (kindP t 0) C).length then addL L (shareL left (oneL (kindP t 0) C)) else if 0 < (selN (kindP t 2) C).length then addL L (shareL left (oneL (kindP t 2) C)) else L
theorem sum_pos:∀ {l:List Int},(∀ x ∈ l,0≤x)→0≤l.sum
 | [],_=>by simp
 | a :: r,h=>by
  have h1:=h a (by simp)
  have h2:=sum_pos (l:=r) (fun x hx=>h x (by simp [hx]))
  simp only [List.sum_cons];omega
theorem le_sum:∀ {l:List Int},(∀ x ∈ l,0≤x)→∀ x ∈ l,x≤l.sum
 | [],_,x,hx=>by cases hx
 | a :: r,h,x,hx=>by
  have h1:=h a (by simp)
  have h2:=sum_pos (l:=r) (fun x hx=>h x (by simp [hx]))
  simp only [List.sum_cons]
  rcases List.mem_cons.1 hx with rfl | hx
  ·omega
  ·have:=le_sum (l:=r) (fun x hx=>h x (by simp [hx])) x hx
   omega
theorem sum_ge {l:List Int} (h:∀ i,i < l.length→0≤l.getD i 0) {i:Nat} (hi:i < l.length):l.getD i 0≤l.sum:=by
 rw [show l.getD i 0=l[i] by simp [List.getD,hi]]
 refine le_sum (fun x hx=>?_) _ (List.getElem_mem hi)
 obtain ⟨j,hj,rfl⟩:=List.mem_iff_getElem.1 hx
 have:=h j hj
 rwa [show l.getD j 0=l[j] by simp [List.getD,hj]] at this
theorem rest_lists {L:List Int} {P:Nat→Bool} {left:Int} {C:Nat} (hLC:L.length=C) (hC:C≤88) (ht:0≤left∧left≤100000) :
  shrOkB left (List.replicate (selN P C).length 0)=true∧(shareL left (List.replicate (selN P C).length 0)).length=(selN P C).length∧(shareL left (List.replicate (selN P C).length 0)).all wtB=true ∧
  (0 < (selN P C).length→giveTo L (selN P C) (shareL left (List.replicate (selN P C).length 0)) (selN P C).length=addL L (shareL left (oneL P C)))∧((selN P C).length=0→giveTo L (selN P C) (shareL left (List.replicate (selN P C).length 0)) (selN P C).length=L):=by
 have hnl:=selN_le P C
 have hok:shrOkB left (List.replicate (selN P C).length 0)=true:=ok_of ht (by simp;omega) (fun i hi=>by rw [List.length_replicate] at hi;simp [List.getD,hi])
 have hl:=shareL_len hok
 rw [List.length_replicate] at hl
 refine ⟨hok,hl,?_,fun h0=>?_,fun h0=>by rw [h0];rfl⟩
 ·by_cases h0:0 < (selN P C).length
  ·refine all_wt (fun i hi=>?_)
   have h1:=shareL_small (t:=left) (l:=List.replicate (selN P C).length 0) i hi
   have h2:=share_sum hok (by simpa using h0)
   have h3:=sum_ge (l:=shareL left (List.replicate (selN P C).length 0)) (fun j hj=>(shareL_small (t:=left) (l:=List.replicate (selN P C).length 0) j hj).1) hi
   omega
  ·have:shareL left (List.replicate (selN P C).length 0)=[]:=List.eq_nil_of_length_eq_zero (by omega)
   rw [this]
   rfl
 ·rw [share_alike_sel P ht (by omega) h0]
  have hok1:=oneL_ok P (n:=C) ht (by omega)
  have h1:=shareL_len hok1
  rw [oneL_len] at h1
  have:=give_all (l:=L) (more:=shareL left (oneL P C)) (P:=P) (by omega) (fun i hi hP=>share_zero hok1 (by rw [oneL_sum];omega) (by rw [oneL_len];omega) (by rw [oneL_get (by omega),if_neg (by rw [hP];simp)]))
  rw [hLC] at this
  exact this
set_option maxRecDepth 100000 in
set_option maxHeartbeats 1000000 in
theorem impltoTheRest (w0:World) (sb:Nat) (ac ar:Option Addr) (cc cr:Nat) (t:T) (width:Int) (g cap C D:Nat) (left:Int) (L:List Int) {z:Nat} (hc:ColsAt w0 z (.slice ac t.cols.length cc) t.cols) (hC:C≤88) (hLC:L.length=C) (hLs:L.all wtB=true) (hg0:w0.heap.size≤g) (hgD:g < D) (hDs:D≤sb) (hleft:0≤left∧left≤100000) (w:World) (h:SpS w0 sb ac ar cc cr t width g cap C D left L w) :
  Calls Tryz.prog 62 #[.pointer (some ⟨sb,0,none⟩)] w fun e w'=>e=.returned (.tuple #[])∧(∃ left',SpS w0 sb ac ar cc cr t width g cap C D left' (restL t C left L) w')∧Bk2 g sb w w':=by
 have H:=Hd h
 have hsbw:sb < w.heap.size:=h.sp.lt
 have HB0:=Hd (Below.refl w.heap.size w)
 have KO:=Hd (fun q W (h:SpS w0 sb ac ar cc cr t width g cap C D left L W)=>implofKind sb ac ar cc cr t width g cap C left q hC W h.sp (hc.kept h.bel))
 clear h hc
 by_cases hn0:0 < (selN (kindP t 0) C).length
 ·have hne:(((selN (kindP t 0) C).length:Int) == 0)=false:=beq_eq_false_iff_ne.2 (by omega)
  go_enter Tryz.func62,Tryz.ntmps62
  go_wp2_with fail
  refine (KO.out 0 _ H.out).mono ?_
  rintro e w1 ⟨v1,rfl,hr1,hb1⟩
  obtain ⟨a1,c1,rfl⟩:=hr1.form
  rw [natL_len] at hr1 ⊢
  have HS1:=Hd (H.out.kept hb1)
  have HB1:=Hd (k_trans HB0.out hb1)
  have HR1:=Hd hr1
  have hz1:=hb1.size
  have hmk:=makeI (selN (kindP t 0) C).length (by have:=selN_le (kindP t 0) C;omega)
  have hnl:=selN_le (kindP t 0) C
  obtain ⟨ok1,len1,all1,give1,give0⟩:=rest_lists (P:=kindP t 0) (L:=L) (left:=left) hLC hC hleft
  have HLt:=Hd (fun k (hk:k < (selN (kindP t 0) C).length)=>(selN_lt hk).1)
  have HFin:Hid (giveTo L (selN (kindP t 0) C) (shareL left (List.replicate (selN (kindP t 0) C).length 0)) (selN (kindP t 0) C).length=restL t C left L):=by
   rw [Hid,restL]
   rw [if_pos hn0]
   exact give1 hn0
  have HA1:=Hd all1
  have HLn:=Hd len1
  have HOk:=Hd ok1
  generalize selN (kindP t 0) C=js at hr1 HR1 hmk hnl HLt HFin HA1 HLn HOk hne hn0 ⊢
  clear hr1 hb1 ok1 len1 all1 give1 give0
  have hA2:=k_alloc (Below.refl w1.heap.size w1) (.cells (newI js.length) 3)
  have HN:=Hd (row_new w1 js.length (by omega))
  have hn2:(w1.alloc (.cells (newI js.length) 3)).heap.size=w1.heap.size+1:=by simp
  have HS2:=Hd (HS1.out.kept hA2)
  have HR2:=Hd (HR1.out.kept (w':=w1.alloc (.cells (newI js.length) 3)) (fun j h0 _ _=>hA2.block j h0))
  have HB2:=Hd (k_trans HB1.out hA2)
  clear HS1 HR1 HB1 hA2
  go_upto_region 4 with fail
  generalize w1.alloc (.cells (newI js.length) 3)=W2 at HN HS2 HR2 HB2 hn2 ⊢
  generalize w1.heap.size=gb at HN HR2 hn2 hz1 ⊢
  have s7:W2.cell? ⟨sb,7,none⟩=some (.int .i64 left):=cellB (p:=7) HS2.out.sp
  have KU:=Hd (shareOut_any left _ _ HOk.out W2 HN.out.at)
  go_wp2_with fail
  refine KU.out.mono ?_
  rintro e w5 ⟨v5,rfl,hr5,hb5⟩
  obtain ⟨a5,c5,rfl⟩:=hr5.form
  have hz5:=hb5.size
  generalize shareL left (List.replicate js.length 0)=G at hr5 HFin HA1 HLn KU ⊢
  have KG:=Hd (implgive sb ac ar cc cr t width g cap C left L G js (.slice a1 js.length c1) (.slice a5 G.length c5) w0.heap.size D w.heap.size hLC HLt.out (by omega) HLn.out hLs HA1.out hleft hgD hDs hsbw w5 (HS2.out.kept hb5).sp (HS2.out.kept hb5).row ((HR2.out.kept (fun j h0 _ _=>hb5.block j h0)).base (by omega) (by omega)) (hr5.base (by omega) (Nat.le_refl _)))
  have HB6:=Hd (k_trans HB2.out hb5)
  have HL6:=Hd ((HS2.out.kept hb5).bel)
  clear KU s7
  go_wp2_with fail
  refine KG.out.mono ?_
  rintro e w6 ⟨rfl,hs6,hr6,hb6⟩
  have HF6:=Hd (SpS.mk (HL6.out.trans (hb6.below HL6.out.size hg0 (by omega))) hs6 hr6)
  rw [HFin.out] at HF6
  have HK6:=Hd ((Bk2.of_below HB6.out).trans hb6)
  clear hs6 hr6 hb6
  go_wp2
  go_end0
  exact ⟨rfl,⟨_,HF6.out⟩,HK6.out⟩
 ·have hl0:(selN (kindP t 0) C).length=0:=by omega
  go_enter Tryz.func62,Tryz.ntmps62
  go_wp2_with fail
  refine (KO.out 0 _ H.out).mono ?_
  rintro e wa ⟨va,rfl,hra,hba⟩
  obtain ⟨aa,ca,rfl⟩:=hra.form
  rw [natL_len,hl0] at hra ⊢
  have Ha:=Hd (H.out.kept hba)
  have HBa:=Hd hba
  have hza:=hba.size
  clear hra hba
  go_wp2_with fail
  refine (KO.out 2 _ Ha.out).mono ?_
  rintro e w1 ⟨v1,rfl,hr1,hb1⟩
  obtain ⟨a1,c1,rfl⟩:=hr1.form
  rw [natL_len] at hr1 ⊢
  have HS1:=Hd (Ha.out.kept hb1)
  have HB1:=Hd (k_trans HBa.out hb1)
  have HR1:=Hd hr1
  have hz1:=hb1.size
  have hmk:=makeI (selN (kindP t 2) C).length (by have:=selN_le (kindP t 2) C;omega)
  have hnl:=selN_le (kindP t 2) C
  obtain ⟨ok1,len1,all1,give1,give0⟩:=rest_lists (P:=kindP t 2) (L:=L) (left:=left) hLC hC hleft
  have HLt:=Hd (fun k (hk:k < (selN (kindP t 2) C).length)=>(selN_lt hk).1)
  have HFin:Hid (giveTo L (selN (kindP t 2) C) (shareL left (List.replicate (selN (kindP t 2) C).length 0)) (selN (kindP t 2) C).length=restL t C left L):=by
   rw [Hid,restL]
   rw [if_neg hn0]
   by_cases hn2:0 < (selN (kindP t 2) C).length
   ·rw [if_pos hn2];exact give1 hn2
   ·rw [if_neg hn2];exact give0 (by omega)
  have HA1:=Hd all1
  have HLn:=Hd len1
  have HOk:=Hd ok1
  generalize selN (kindP t 2) C=js at hr1 HR1 hmk hnl HLt HFin HA1 HLn HOk ⊢
  clear hr1 hb1 ok1 len1 all1 give1 give0
  have hA2:=k_alloc (Below.refl w1.heap.size w1) (.cells (newI js.length) 3)
  have HN:=Hd (row_new w1 js.length (by omega))
  have hn2:(w1.alloc (.cells (newI js.length) 3)).heap.size=w1.heap.size+1:=by simp
  have HS2:=Hd (HS1.out.kept hA2)
  have HR2:=Hd (HR1.out.kept (w':=w1.alloc (.cells (newI js.length) 3)) (fun j h0 _ _=>hA2.block j h0))
  have HB2:=Hd (k_trans HB1.out hA2)
  clear HS1 HR1 HB1 hA2
  go_upto_region 4 with fail
  generalize w1.alloc (.cells (newI js.length) 3)=W2 at HN HS2 HR2 HB2 hn2 ⊢
  generalize w1.heap.size=gb at HN HR2 hn2 hz1 ⊢
  have s7:W2.cell? ⟨sb,7,none⟩=some (.int .i64 left):=cellB (p:=7) HS2.out.sp
  have KU:=Hd (shareOut_any left _ _ HOk.out W2 HN.out.at)
  go_wp2_with fail
  refine KU.out.mono ?_
  rintro e w5 ⟨v5,rfl,hr5,hb5⟩
  obtain ⟨a5,c5,rfl⟩:=hr5.form
  have hz5:=hb5.size
  generalize shareL left (List.replicate js.length 0)=G at hr5 HFin HA1 HLn KU ⊢
  have KG:=Hd (implgive sb ac ar cc cr t width g cap C left L G js (.slice a1 js.length c1) (.slice a5 G.length c5) w0.heap.size D w.heap.size hLC HLt.out (by omega) HLn.out hLs HA1.out hleft hgD hDs hsbw w5 (HS2.out.kept hb5).sp (HS2.out.kept hb5).row ((HR2.out.kept (fun j h0 _ _=>hb5.block j h0)).base (by omega) (by omega)) (hr5.base (by omega) (Nat.le_refl _)))
  have HB6:=Hd (k_trans HB2.out hb5)
  have HL6:=Hd ((HS2.out.kept hb5).bel)
  clear KU s7
  go_wp2_with fail
  refine KG.out.mono ?_
  rintro e w6 ⟨rfl,hs6,hr6,hb6⟩
  have HF6:=Hd (SpS.mk (HL6.out.trans (hb6.below HL6.out.size hg0 (by omega))) hs6 hr6)
  rw [HFin.out] at HF6
  have HK6:=Hd ((Bk2.of_below HB6.out).trans hb6)
  clear hs6 hr6 hb6
  go_wp2
  go_end0
  exact ⟨rfl,⟨_,HF6.out⟩,HK6.out⟩
end Go.Proofs.YtcbibdhlkdcmiaiGreat
namespace Go.Proofs.YtcbibdhlkdcmiaiGreat
open Go.RowKit
theorem addL_zero {L M:List Int} (hl:M.length=L.length) (hs:M.sum=0) (hp:∀ i,i < M.length→0≤M.getD i 0):addL L M=L:=by
 apply ext_getD (addL_len hl)
 intro i hi
 rw [addL_len hl] at hi
 rw [addL_get hl hi]
 have h1:=sum_ge hp (i:=i) (by omega)
 have h2:=hp i (by omega)
 omega
theorem upTo_none {L want:List Int} (hl:want.length=L.length) (hok:shrOkB 0 want=true):addL L (upToL 0 want)=L∧upToN 0 want=0:=by
 obtain ⟨a1,a2,a3,a4,a5⟩:=upTo_total hok
 have hp:∀ i,i < (upToL 0 want).length→0≤(upToL 0 want).getD i 0:=fun i hi=>(a5 i (by omega)).1
 have hs:0≤(upToL 0 want).sum:=sum_pos (fun x hx=>by
  obtain ⟨j,hj,rfl⟩:=List.mem_iff_getElem.1 hx
  have:=hp j hj
  rwa [show (upToL 0 want).getD j 0=(upToL 0 want)[j] by simp [List.getD,hj]] at this)
 exact ⟨addL_zero (by omega) (by omega) hp,by omega⟩
theorem share_none {L:List Int} {P:Nat→Bool} {C:Nat} (hLC:L.length=C) (hC:C≤88) (h0:0 < (selN P C).length):addL L (shareL 0 (oneL P C))=L:=by
 have hok:=oneL_ok P (n:=C) (t:=0) (by omega) (by omega)
 have hl:=shareL_len hok
 rw [oneL_len] at hl
 have hC0:0 < C:=by have:=selN_le P C;omega
 exact addL_zero (by omega) (share_sum hok (by rw [oneL_len];exact hC0)) (fun i hi=>(shareL_small i hi).1)
theorem rest_none {t:T} {C:Nat} {L:List Int} (hLC:L.length=C) (hC:C≤88):restL t C 0 L=L:=by
 unfold restL
 split
 ·rename_i h;exact share_none hLC hC h
 ·split
  ·rename_i h;exact share_none hLC hC h
  ·rfl
theorem wid_rest {t:T} {width:Int} (h:0 < restV t width):widL t width=restL t (colN t) (left2 t width) (out2 t width):=by
 unfold widL restL
 rw [if_neg (by omega)]
theorem wid_two {t:T} (hD:Drawn t) (hok:tblB t=true) {width:Int} (hw:0≤width∧width≤300) (hC:colN t≤88) (h:0 < restV t width) (h2:left2 t width≤0):widL t width=out2 t width:=by
 obtain ⟨_,_,hl2,_,ho2,_⟩:=wid_steps hD hok hw h
 have e:left2 t width=0:=by omega
 rw [wid_rest h,e,rest_none ho2 hC]
theorem wid_one {t:T} (hD:Drawn t) (hok:tblB t=true) {width:Int} (hw:0≤width∧width≤300) (hC:colN t≤88) (h:0 < restV t width) (h1:left1 t width≤0):widL t width=out1 t width:=by
 obtain ⟨ok1,ok2,hl2,ho1,ho2,_⟩:=wid_steps hD hok hw h
 have e:left1 t width=0:=by
  have:=(upTo_total ok1).2.2.1
  unfold left1 at h1 ⊢
  omega
 have e2:out2 t width=out1 t width∧left2 t width=0:=by
  unfold out2 left2
  rw [e] at ok2 ⊢
  exact upTo_none (want2_len _ _) ok2
 rw [wid_two hD hok hw hC h (by omega),e2.1]
theorem wid_no {t:T} {width:Int} (h:restV t width≤0):widL t width=leastL t:=by unfold widL;rw [if_pos h]
theorem out1_wish {t:T} (hD:Drawn t) (hok:tblB t=true) {width:Int} (hw:0≤width∧width≤300) (h:0 < restV t width) {j:Nat} (hj:j < colN t) (hP:kindP t 0 j=true):(out1 t width).getD j 0≤(wishL t).getD j 0:=by
 obtain ⟨_,_,_,_,_,_,hk⟩:=wid_steps hD hok hw h
 have h2:kindP t 2 j=false:=by
  simp only [kindP,decide_eq_true_eq] at hP
  simp [kindP,hP]
 rw [(hk j hj).2.2.1 h2]
 have:=wishL_get hj
 omega
theorem out1_small {t:T} (hD:Drawn t) (hok:tblB t=true) {width:Int} (hw:0≤width∧width≤300) (h:0 < restV t width):(out1 t width).all wtB=true∧(out2 t width).all wtB=true:=by
 obtain ⟨ok1,ok2,_,ho1,ho2,_⟩:=wid_steps hD hok hw h
 have hup:=leastL_up hD
 obtain ⟨a1,a2,a3,a4,a5⟩:=upTo_total ok1
 obtain ⟨b1,b2,b3,b4,b5⟩:=upTo_total ok2
 rw [want1_len] at a1 a5
 rw [want2_len] at b1 b5
 have hr:restV t width≤100000:=(shrOk_parts ok1).1.2
 have hl:left1 t width≤100000:=(shrOk_parts ok2).1.2
 have hll:=leastL_len t
 have s1:∀ i,i < colN t→0≤(out1 t width).getD i 0∧(out1 t width).getD i 0≤5300:=fun i hi=>by
  have h1:=a5 i (by omega)
  have h2:=hup i (by omega)
  have h3:(out1 t width).getD i 0=(leastL t).getD i 0+(upToL (restV t width) (want1 t width (leastL t))).getD i 0:=by unfold out1;exact addL_get (by omega) (by omega)
  rw [want1_get (by omega)] at h1
  have hk:=sd_kind (t:=t) hi
  have hps:=fun hn=>part_small hw (n:=(sd t.cols i).2) hn
  split at h1
  ·rename_i hP
   simp only [kindP,decide_eq_true_eq] at hP
   have:=hps (by omega)
   omega
  ·omega
 refine ⟨all_wt (fun i hi=>by have:=s1 i (by omega);omega),all_wt (fun i hi=>?_)⟩
 have h1:=b5 i (by omega)
 have h2:=s1 i (by omega)
 have h3:(out2 t width).getD i 0=(out1 t width).getD i 0+(upToL (left1 t width) (want2 t (out1 t width))).getD i 0:=by unfold out2;exact addL_get (by omega) (by omega)
 rw [want2_get (by omega)] at h1
 have h4:=wishL_up hD i (by rw [wishL_len];omega)
 split at h1 <;> omega
theorem acr_least {t:T} (hD:Drawn t) (hok:tblB t=true):1≤colN t∧colN t≤88∧acrV (leastL t) t.gap=(leastL t).sum+t.gap * ((colN t:Int) - 1)∧0≤acrV (leastL t) t.gap∧acrV (leastL t) t.gap≤1000000∧(leastL t).all wtB=true:=by
 obtain ⟨_,C,hgc,hC,hcel⟩:=cel_of hD
 have hCN:=colN_of hgc
 have hlen:=leastL_len t
 have hup:=leastL_up hD
 have hall:(leastL t).all wtB=true:=all_wt (fun i hi=>by have:=hup i hi;omega)
 have hs:=sum_bound hall
 have hC1:1≤colN t:=by
  have h1:(gOf t).cols=colsOf (max 1 (t.cols.length:Int)) (gridOf t):=by rw [gOf_ok hok]
  have h2:=colsOf_ge (gridOf t) (max 1 (t.cols.length:Int))
  unfold colN
  omega
 have hg:0≤t.gap∧t.gap≤3:=by
  simp only [tblB,inB,Bool.and_eq_true,decide_eq_true_eq] at hok
  exact hok.2.2.1
 have hg1:0≤t.gap * ((colN t:Int) - 1):=Int.mul_nonneg hg.1 (by omega)
 have hg2:t.gap * ((colN t:Int) - 1)≤3 * 87:=Int.mul_le_mul hg.2 (by omega) (by omega) (by omega)
 have hsb:=sum_upB (l:=leastL t) (B:=5000) (fun x hx=>hup.mem hx)
 have e:acrV (leastL t) t.gap=(leastL t).sum+t.gap * ((colN t:Int) - 1):=by
  rw [acrV_cons (by omega),hlen,W_small (by omega)]
 refine ⟨hC1,by omega,e,by omega,?_,hall⟩
 rw [e]
 omega
theorem share_small {t:Int} {l:List Int} (hok:shrOkB t l=true) (h0:0 < l.length):(shareL t l).all wtB=true:=by
 have ht:=(shrOk_parts hok).1
 refine all_wt (fun i hi=>?_)
 have h1:=shareL_small (t:=t) (l:=l) i hi
 have h2:=share_sum hok h0
 have h3:=sum_ge (l:=shareL t l) (fun j hj=>(shareL_small (t:=t) (l:=l) j hj).1) hi
 omega
end Go.Proofs.YtcbibdhlkdcmiaiGreat
