/-
  PROVED HERE: how wide columns are, as lists: at least, and what is left to parts, to others up to what they would be, and the rest alike; all of the width is used, and no column is less wide than at least. Also: 4 more texts of the same proof.
-/
import Derived.Test.YtggmjiddadjilaeGreatC33
import Derived.Test.YtggmjiddadjilaeGreatC24
import Derived.Test.YtggmjiddadjilaeGreatC22
import Derived.Test.YtggmjiddadjilaeGreatC12
import Derived.Deep.DeepCutAuto
import Derived.Deep.RegionWith
import Derived.Deep.QuietTactic
import Derived.BigQuiet
namespace Go.Proofs.YtggmjiddadjilaeGreat
open Go.RowKit
def kindP (t:T) (q:Int) (k:Nat):Bool:=decide ((sd t.cols k).1=q)
def restV (t:T) (width:Int):Int:=width - ((leastL t).sum+t.gap * ((colN t:Int) - 1))
def want1 (t:T) (width:Int) (l:List Int):List Int:=(List.range l.length).map (fun k=>if kindP t 2 k=true then max 0 (width * (sd t.cols k).2 / 100 - l.getD k 0) else 0)
def want2 (t:T) (l:List Int):List Int:=(List.range l.length).map (fun k=>if kindP t 0 k=true then max 0 ((wishL t).getD k 0 - l.getD k 0) else 0)
def out1 (t:T) (width:Int):List Int:=addL (leastL t) (upToL (restV t width) (want1 t width (leastL t)))
def left1 (t:T) (width:Int):Int:=upToN (restV t width) (want1 t width (leastL t))
def out2 (t:T) (width:Int):List Int:=addL (out1 t width) (upToL (left1 t width) (want2 t (out1 t width)))
def left2 (t:T) (width:Int):Int:=upToN (left1 t width) (want2 t (out1 t width))
def widL (t:T) (width:Int):List Int :=
 if restV t width≤0 then leastL t
 else if 0 < (selN (kindP t 0) (colN t)).length then addL (out2 t width) (shareL (left2 t width) (oneL (kindP t 0) (colN t)))
 else if 0 < (selN (kindP t 2) (colN t)).length then addL (out2 t width) (shareL (left2 t width) (oneL (kindP t 2) (colN t)))
 else out2 t width
theorem addL_len {a b:List Int} (h:b.length=a.length):(addL a b).length=a.length:=by unfold addL;rw [List.length_zipWith,h];omega
theorem addL_sum {a b:List Int} (h:b.length=a.length):(addL a b).sum=a.sum+b.sum:=sum_zip a b h.symm
theorem addL_get {a b:List Int} (h:b.length=a.length) {i:Nat} (hi:i < a.length):(addL a b).getD i 0=a.getD i 0+b.getD i 0:=by
 have hb:i < b.length:=by omega
 have hz:i < (List.zipWith (·+·) a b).length:=by rw [List.length_zipWith];omega
 unfold addL
 simp only [List.getD,List.getElem?_eq_getElem hi,List.getElem?_eq_getElem hb,List.getElem?_eq_getElem hz,Option.getD_some,List.getElem_zipWith]
theorem want1_len (t:T) (width:Int) (l:List Int):(want1 t width l).length=l.length:=by simp [want1]
theorem want2_len (t:T) (l:List Int):(want2 t l).length=l.length:=by simp [want2]
theorem want1_get {t:T} {width:Int} {l:List Int} {k:Nat} (h:k < l.length):(want1 t width l).getD k 0=if kindP t 2 k=true then max 0 (width * (sd t.cols k).2 / 100 - l.getD k 0) else 0:=by simp [want1,List.getD,h]
theorem want2_get {t:T} {l:List Int} {k:Nat} (h:k < l.length):(want2 t l).getD k 0=if kindP t 0 k=true then max 0 ((wishL t).getD k 0 - l.getD k 0) else 0:=by simp [want2,List.getD,h]
theorem ok_of {t:Int} {l:List Int} (ht:0≤t∧t≤100000) (hl:l.length≤100) (h:∀ i,i < l.length→0≤l.getD i 0∧l.getD i 0≤100000):shrOkB t l=true:=by
 simp only [shrOkB,Bool.and_eq_true,decide_eq_true_eq,List.all_eq_true]
 refine ⟨⟨by simp only [wtB,decide_eq_true_eq];exact ht,hl⟩,fun x hx=>?_⟩
 obtain ⟨i,hi,rfl⟩:=List.mem_iff_getElem.1 hx
 have:=h i hi
 rw [show l.getD i 0=l[i] by simp [List.getD,hi]] at this
 simp only [wtB,decide_eq_true_eq]
 exact this
theorem upTo_total {t:Int} {l:List Int} (hok:shrOkB t l=true):(upToL t l).length=l.length∧(upToL t l).sum+upToN t l=t∧0≤upToN t l∧upToN t l≤t∧∀ i,i < l.length→0≤(upToL t l).getD i 0∧(upToL t l).getD i 0≤l.getD i 0:=by
 obtain ⟨ht,hlen,hw⟩:=shrOk_parts hok
 have hg:∀ i,i < l.length→0≤l.getD i 0:=fun i hi=>(wt_get hw hi).1
 by_cases hs:l.sum≤t
 ·rw [(upTo_all hok hs).1,(upTo_all hok hs).2]
  have h0:0≤l.sum:=(sum_bound hw).1
  exact ⟨rfl,by omega,by omega,by omega,fun i hi=>⟨hg i hi,Int.le_refl _⟩⟩
 ·rw [(upTo_share hok hs).1,(upTo_share hok hs).2]
  have hpos:0 < l.length:=by
   cases l with
   | nil=>simp at hs;omega
   | cons _ _=>simp
  exact ⟨shareL_len hok,by rw [share_sum hok hpos];omega,Int.le_refl _,ht.1,fun i hi=>share_upto hok (by omega) hi⟩
theorem sd_kind {t:T} {k:Nat} (hk:k < colN t):((sd t.cols k).1=0)∨((sd t.cols k).1=1∧0≤(sd t.cols k).2∧(sd t.cols k).2≤60)∨((sd t.cols k).1=2∧1≤(sd t.cols k).2∧(sd t.cols k).2≤100):=by
 cases h:tblB t with
 | false=>unfold colN at hk;rw [gOf_no h] at hk;exact absurd hk (Nat.not_lt_zero _)
 | true =>
  simp only [tblB,colsB,Bool.and_eq_true,List.all_eq_true] at h
  by_cases hl:k < t.cols.length
  ·rw [sd_yes hl]
   have:=h.2.2.2.1.2 (t.cols.getD k (0,0)) (by rw [show t.cols.getD k (0,0)=t.cols[k] by simp [List.getD,hl]];exact List.getElem_mem hl)
   simp only [colB,decide_eq_true_eq] at this
   omega
  ·rw [sd_no (inB_false (by omega))]
   exact .inl rfl
theorem part_small {width n:Int} (hw:0≤width∧width≤300) (hn:1≤n∧n≤100):0≤width * n / 100∧width * n / 100≤300:=by
 have h1:0≤width * n:=Int.mul_nonneg hw.1 (by omega)
 have h2:width * n≤300 * 100:=Int.mul_le_mul hw.2 hn.2 (by omega) (by omega)
 omega
theorem wid_steps {t:T} (hD:Drawn t) (hok:tblB t=true) {width:Int} (hw:0≤width∧width≤300) (hr:0 < restV t width) :
  shrOkB (restV t width) (want1 t width (leastL t))=true∧shrOkB (left1 t width) (want2 t (out1 t width))=true∧(0≤left2 t width∧left2 t width≤300)∧(out1 t width).length=colN t∧(out2 t width).length=colN t∧(out2 t width).sum+left2 t width=(leastL t).sum+restV t width ∧
  (∀ k,k < colN t→(leastL t).getD k 0≤(out1 t width).getD k 0∧(out1 t width).getD k 0≤(out2 t width).getD k 0∧(kindP t 2 k=false→(out1 t width).getD k 0=(leastL t).getD k 0)∧(kindP t 0 k=false→(out2 t width).getD k 0=(out1 t width).getD k 0)):=by
 obtain ⟨_,C,hgc,hC,hcel⟩:=cel_of hD
 have hCN:=colN_of hgc
 have hlen:=leastL_len t
 have hup:=leastL_up hD
 have hsb:=sum_upB (l:=leastL t) (B:=5000) (fun x hx=>hup.mem hx)
 have hC1:1≤colN t:=by
  have h1:(gOf t).cols=colsOf (max 1 (t.cols.length:Int)) (gridOf t):=by rw [gOf_ok hok]
  have h2:=colsOf_ge (gridOf t) (max 1 (t.cols.length:Int))
  unfold colN
  omega
 have hg:0≤t.gap∧t.gap≤3:=by
  simp only [tblB,inB,Bool.and_eq_true,decide_eq_true_eq] at hok
  exact hok.2.2.1
 have hgap:0≤t.gap * ((colN t:Int) - 1):=Int.mul_nonneg hg.1 (by omega)
 have hr300:restV t width≤300:=by unfold restV;omega
 have ok1:shrOkB (restV t width) (want1 t width (leastL t))=true:=ok_of (by omega) (by rw [want1_len,hlen];omega) (fun i hi=>by
  rw [want1_len] at hi
  rw [want1_get hi]
  have hu:=hup i hi
  split
  ·rename_i hp
   have hk:=sd_kind (t:=t) (k:=i) (by rw [← hlen];exact hi)
   simp only [kindP,decide_eq_true_eq] at hp
   have:=part_small hw (n:=(sd t.cols i).2) (by omega)
   omega
  ·omega)
 obtain ⟨l1,s1,n1,m1,e1⟩:=upTo_total ok1
 rw [want1_len] at l1 e1
 have ho1:(out1 t width).length=colN t:=by unfold out1;rw [addL_len l1,hlen]
 have g1:∀ k,k < colN t→(out1 t width).getD k 0=(leastL t).getD k 0+(upToL (restV t width) (want1 t width (leastL t))).getD k 0:=fun k hk=>by unfold out1;exact addL_get l1 (by rw [hlen];exact hk)
 have hl1:0≤left1 t width∧left1 t width≤300:=by unfold left1;omega
 have ok2:shrOkB (left1 t width) (want2 t (out1 t width))=true:=ok_of (by omega) (by rw [want2_len,ho1];omega) (fun i hi=>by
  rw [want2_len] at hi
  rw [want2_get hi]
  have hi':i < colN t:=by rw [← ho1];exact hi
  have hwu:=wishL_up hD i (by rw [wishL_len];exact hi')
  have h3:=g1 i hi'
  have h4:=hup i (by rw [hlen];exact hi')
  have h5:=e1 i (by rw [hlen];exact hi')
  split <;> omega)
 obtain ⟨l2,s2,n2,m2,e2⟩:=upTo_total ok2
 rw [want2_len] at l2 e2
 have ho2:(out2 t width).length=colN t:=by unfold out2;rw [addL_len l2,ho1]
 have g2:∀ k,k < colN t→(out2 t width).getD k 0=(out1 t width).getD k 0+(upToL (left1 t width) (want2 t (out1 t width))).getD k 0:=fun k hk=>by unfold out2;exact addL_get l2 (by rw [ho1];exact hk)
 refine ⟨ok1,ok2,by unfold left2;omega,ho1,ho2,?_,fun k hk=>?_⟩
 ·have a1:(out1 t width).sum=(leastL t).sum+(upToL (restV t width) (want1 t width (leastL t))).sum:=by unfold out1;exact addL_sum l1
  have a2:(out2 t width).sum=(out1 t width).sum+(upToL (left1 t width) (want2 t (out1 t width))).sum:=by unfold out2;exact addL_sum l2
  have a3:left1 t width=upToN (restV t width) (want1 t width (leastL t)):=rfl
  have a4:left2 t width=upToN (left1 t width) (want2 t (out1 t width)):=rfl
  rw [a2,a1,a4]
  omega
 ·have b1:=e1 k (by rw [hlen];exact hk)
  have b2:=e2 k (by rw [ho1];exact hk)
  rw [want1_get (by rw [hlen];exact hk)] at b1
  rw [want2_get (by rw [ho1];exact hk)] at b2
  have c1:=g1 k hk
  have c2:=g2 k hk
  refine ⟨by omega,by omega,fun h=>?_,fun h=>?_⟩
  ·rw [if_neg (by rw [h];simp)] at b1
   omega
  ·rw [if_neg (by rw [h];simp)] at b2
   omega
theorem oneL_sum {P:Nat→Bool} {n:Nat}:(oneL P n).sum=((selN P n).length:Int):=by
 have hz:∀ i,i < (oneL P n).length→P i=false→(oneL P n).getD i 0=0:=fun i hi hP=>by
  rw [oneL_len] at hi
  rw [oneL_get hi,if_neg (by rw [hP];simp)]
 have:=selL_sum (l:=oneL P n) (P:=P) (oneL P n).length (Nat.le_refl _) hz
 rw [sumTo_all,oneL_len,sel_one,sum_ones] at this
 exact this.symm
theorem selN_none {P:Nat→Bool} {n:Nat} (h:¬ 0 < (selN P n).length) {k:Nat} (hk:k < n):P k=false:=by
 cases hP:P k with
 | false=>rfl
 | true =>
  have:k ∈ selN P n:=by unfold selN;rw [List.mem_filter];exact ⟨List.mem_range.2 hk,hP⟩
  exact absurd (List.length_pos_of_mem this) h
theorem last_share {P:Nat→Bool} {n:Nat} {t:Int} {l:List Int} (hl:l.length=n) (hn:n≤100) (ht:0≤t∧t≤300) (h0:0 < (selN P n).length) :
  (addL l (shareL t (oneL P n))).length=n∧(addL l (shareL t (oneL P n))).sum=l.sum+t∧∀ k,k < n→l.getD k 0≤(addL l (shareL t (oneL P n))).getD k 0∧(P k=false→(addL l (shareL t (oneL P n))).getD k 0=l.getD k 0):=by
 have hok:=oneL_ok P (n:=n) (t:=t) (by omega) hn
 have hs:=shareL_len hok
 rw [oneL_len] at hs
 have hpos:0 < n:=by
  have:=(selN_get h0).1
  omega
 refine ⟨by rw [addL_len (by rw [hs,hl]),hl],by rw [addL_sum (by rw [hs,hl]),share_sum hok (by rw [oneL_len];exact hpos)],fun k hk=>?_⟩
 rw [addL_get (by rw [hs,hl]) (by rw [hl];exact hk)]
 have h1:=shareL_small (t:=t) (l:=oneL P n) k (by rw [hs];exact hk)
 refine ⟨by omega,fun hP=>?_⟩
 rw [share_zero hok (by rw [oneL_sum];omega) (by rw [oneL_len];exact hk) (by rw [oneL_get hk,if_neg (by rw [hP];simp)])]
 omega
def allFix (t:T):Bool:=(List.range (colN t)).all (fun k=>kindP t 1 k)
theorem wid_facts {t:T} (hD:Drawn t) (hok:tblB t=true) {width:Int} (hw:0≤width∧width≤300) :
  (widL t width).length=colN t∧(widL t width).sum+t.gap * ((colN t:Int) - 1)=(if width < (leastL t).sum+t.gap * ((colN t:Int) - 1)∨allFix t=true then (leastL t).sum+t.gap * ((colN t:Int) - 1) else width) ∧
  ∀ k,k < colN t→(leastL t).getD k 0≤(widL t width).getD k 0∧(kindP t 1 k=true→(widL t width).getD k 0=(leastL t).getD k 0):=by
 obtain ⟨_,C,hgc,hC,hcel⟩:=cel_of hD
 have hCN:=colN_of hgc
 have hk1:∀ k,kindP t 1 k=true→kindP t 0 k=false∧kindP t 2 k=false:=fun k h=>by
  simp only [kindP,decide_eq_true_eq] at h
  simp [kindP,h]
 by_cases hr:restV t width≤0
 ·have e:widL t width=leastL t:=by unfold widL;rw [if_pos hr]
  rw [e]
  refine ⟨leastL_len t,?_,fun k _=>⟨Int.le_refl _,fun _=>rfl⟩⟩
  unfold restV at hr
  split
  ·rfl
  ·rename_i hn
   have:¬ width < (leastL t).sum+t.gap * ((colN t:Int) - 1):=fun h=>hn (.inl h)
   omega
 ·obtain ⟨_,_,hl2,_,ho2,hsum,hk⟩:=wid_steps hD hok hw (by omega)
  have hrr:restV t width=width - ((leastL t).sum+t.gap * ((colN t:Int) - 1)):=rfl
  have hnl:¬ width < (leastL t).sum+t.gap * ((colN t:Int) - 1):=by omega
  by_cases h0:0 < (selN (kindP t 0) (colN t)).length
  ·have e:widL t width=addL (out2 t width) (shareL (left2 t width) (oneL (kindP t 0) (colN t))):=by unfold widL;rw [if_neg hr,if_pos h0]
   obtain ⟨a1,a2,a3⟩:=last_share ho2 (by omega) hl2 h0
   have hnf:¬ allFix t=true:=fun h=>by
    have hg:=selN_get h0
    have:=List.all_eq_true.1 h _ (List.mem_range.2 hg.1)
    have:=(hk1 _ this).1
    rw [hg.2] at this
    cases this
   rw [e]
   refine ⟨a1,?_,fun k hkk=>?_⟩
   ·rw [if_neg (by rintro (h | h);exact hnl h;exact hnf h),a2]
    omega
   ·have b1:=a3 k hkk
    have b2:=hk k hkk
    refine ⟨by omega,fun h=>?_⟩
    have c:=hk1 k h
    rw [b1.2 c.1,b2.2.2.2 c.1,b2.2.2.1 c.2]
  ·by_cases h2:0 < (selN (kindP t 2) (colN t)).length
   ·have e:widL t width=addL (out2 t width) (shareL (left2 t width) (oneL (kindP t 2) (colN t))):=by unfold widL;rw [if_neg hr,if_neg h0,if_pos h2]
    obtain ⟨a1,a2,a3⟩:=last_share ho2 (by omega) hl2 h2
    have hnf:¬ allFix t=true:=fun h=>by
     have hg:=selN_get h2
     have:=List.all_eq_true.1 h _ (List.mem_range.2 hg.1)
     have:=(hk1 _ this).2
     rw [hg.2] at this
     cases this
    rw [e]
    refine ⟨a1,?_,fun k hkk=>?_⟩
    ·rw [if_neg (by rintro (h | h);exact hnl h;exact hnf h),a2]
     omega
    ·have b1:=a3 k hkk
     have b2:=hk k hkk
     refine ⟨by omega,fun h=>?_⟩
     have c:=hk1 k h
     rw [b1.2 c.2,b2.2.2.2 c.1,b2.2.2.1 c.2]
   ·have e:widL t width=out2 t width:=by unfold widL;rw [if_neg hr,if_neg h0,if_neg h2]
    have hfx:allFix t=true:=List.all_eq_true.2 (fun k hkr=>by
     have hkk:=List.mem_range.1 hkr
     have n0:=selN_none h0 hkk
     have n2:=selN_none h2 hkk
     have:=sd_kind hkk
     simp only [kindP,decide_eq_false_iff_not] at n0 n2
     simp only [kindP,decide_eq_true_eq]
     omega)
    have heq:out2 t width=leastL t:=by
     apply List.ext_getElem (by rw [ho2,leastL_len])
     intro i h1 h3
     have hi:i < colN t:=by rw [ho2] at h1;exact h1
     have b:=hk i hi
     have:=(b.2.2.2 (selN_none h0 hi)).trans (b.2.2.1 (selN_none h2 hi))
     simpa [List.getD,h1,h3] using this
    rw [e,heq]
    refine ⟨leastL_len t,by rw [if_pos (.inr hfx)],fun k _=>⟨Int.le_refl _,fun _=>rfl⟩⟩
def natL (js:List Nat):List Int:=js.map (fun k:Nat=>(k:Int))
theorem natL_len (js:List Nat):(natL js).length=js.length:=by simp [natL]
theorem natL_get {js:List Nat} {k:Nat} (h:k < js.length):(natL js).getD k 0=((js.getD k 0:Nat):Int):=by simp [natL,List.getD,h]
theorem natL_snoc (js:List Nat) (k:Nat):natL (js ++ [k])=natL js ++ [(k:Int)]:=by simp [natL]
theorem selN_yes {P:Nat→Bool} {n:Nat} (h:P n=true):selN P (n+1)=selN P n ++ [n]:=by rw [selN_succ,if_pos h]
theorem selN_no {P:Nat→Bool} {n:Nat} (h:P n=false):selN P (n+1)=selN P n:=by rw [selN_succ,if_neg (by rw [h];simp),List.append_nil]
theorem selN_le (P:Nat→Bool) (n:Nat):(selN P n).length≤n:=by unfold selN;exact Nat.le_trans (List.length_filter_le _ _) (by simp)
theorem selN_lt {P:Nat→Bool} {n k:Nat} (h:k < (selN P n).length):(selN P n).getD k 0 < n∧P ((selN P n).getD k 0)=true:=by
 have e:(selN P n).getD k 0=(selN P n)[k]:=by simp [List.getD,h]
 rw [e]
 exact selN_get h
def fillL (l:List Int) (k:Nat):List Int:=l.take k ++ List.replicate (l.length - k) 0
theorem fillL_len (l:List Int) {k:Nat} (h:k≤l.length):(fillL l k).length=l.length:=by simp [fillL];omega
theorem fillL_zero (l:List Int):fillL l 0=List.replicate l.length 0:=by simp [fillL]
theorem fillL_all (l:List Int):fillL l l.length=l:=by simp [fillL]
theorem fillL_succ {l:List Int} {k:Nat} (h:k < l.length):fillL l (k+1)=(fillL l k).set k (l.getD k 0):=by
 have e:List.replicate (l.length - k) (0:Int)=0 :: List.replicate (l.length - (k+1)) 0:=by
  rw [show l.length - k=(l.length - (k+1))+1 by omega,List.replicate_succ]
 have hl:(l.take k).length=k:=by rw [List.length_take];omega
 unfold fillL
 rw [e,List.set_append_right _ _ (by omega),hl,Nat.sub_self,List.set_cons_zero,List.take_succ_eq_append_getElem h,show l.getD k 0=l[k] by simp [List.getD,h],List.append_assoc]
 rfl
structure Bk2 (r s:Nat) (w w':World):Prop where
 os:w'.os=w.os
 tape:w'.tape=w.tape
 output:w'.output=w.output
 size:w.heap.size≤w'.heap.size
 block:∀ k,k < w.heap.size→k ≠ r→k ≠ s→w'.heap[k]?=w.heap[k]?
theorem Bk2.refl (r s:Nat) (w:World):Bk2 r s w w:=⟨rfl,rfl,rfl,Nat.le_refl _,fun _ _ _ _=>rfl⟩
theorem Bk2.trans {r s:Nat} {a b c:World} (h:Bk2 r s a b) (k:Bk2 r s b c):Bk2 r s a c :=
 ⟨k.os.trans h.os,k.tape.trans h.tape,k.output.trans h.output,Nat.le_trans h.size k.size,fun i hi hr hs=>(k.block i (Nat.lt_of_lt_of_le hi h.size) hr hs).trans (h.block i hi hr hs)⟩
theorem Bk2.of_below {r s:Nat} {w w':World} (h:Below w.heap.size w w'):Bk2 r s w w':=⟨h.os,h.tape,h.output,h.size,fun k hk _ _=>h.block k hk⟩
theorem Bk2.set {r s:Nat} {a w:World} (h:Bk2 r s a w) {p:Addr} (hp:p.block=r∨p.block=s) (u:Value):Bk2 r s a (w.setCell p u) :=
 ⟨h.os,h.tape,h.output,by simpa [World.setCell] using h.size,fun k hk hr hs=>(Below.heap_setCell _ _ _ _ (by omega)).trans (h.block k hk hr hs)⟩
theorem Bk2.below {r s:Nat} {w w':World} (h:Bk2 r s w w') {n:Nat} (hn:n≤w.heap.size) (hr:n≤r) (hs:n≤s):Below n w w':=⟨h.os,h.tape,h.output,h.size,fun k hk=>h.block k (by omega) (by omega) (by omega)⟩
theorem RowI.bk2 {w w':World} {B D r s:Nat} {v:Value} {l:List Int} (h:RowI w B D v l) (k:Bk2 r s w w') (hr:r < B∨D≤r) (hs:s < B∨D≤s):RowI w' B D v l:=h.kept (fun j h0 h1 h2=>k.block j h0 (by omega) (by omega))
def Sp (W:World) (sb:Nat) (ac ar:Option Addr) (cc cr:Nat) (t:T) (width:Int) (g cap C:Nat) (left:Int):Prop :=
 W.heap[sb]?=some (.cells #[.slice ac t.cols.length cc,.int .i64 t.head,.int .i64 t.foot,.slice ar t.rows.length cr,.int .i64 t.gap,.int .i64 width,.slice (some ⟨g,0,none⟩) C cap,.int .i64 left] 81)
theorem Sp.lt {W:World} {sb:Nat} {ac ar:Option Addr} {cc cr:Nat} {t:T} {width:Int} {g cap C:Nat} {left:Int} (h:Sp W sb ac ar cc cr t width g cap C left):sb < W.heap.size:=(bL h)
theorem Sp.kept {W W':World} {sb:Nat} {ac ar:Option Addr} {cc cr:Nat} {t:T} {width:Int} {g cap C:Nat} {left:Int} (h:Sp W sb ac ar cc cr t width g cap C left) (k:Below W.heap.size W W'):Sp W' sb ac ar cc cr t width g cap C left:=(k.block sb h.lt).trans h
theorem Sp.other {W:World} {sb:Nat} {ac ar:Option Addr} {cc cr:Nat} {t:T} {width:Int} {g cap C:Nat} {left:Int} (h:Sp W sb ac ar cc cr t width g cap C left) {p:Addr} (hp:sb ≠ p.block) (u:Value):Sp (W.setCell p u) sb ac ar cc cr t width g cap C left:=(Below.heap_setCell _ _ _ _ hp).trans h
theorem Sp.left {W:World} {sb:Nat} {ac ar:Option Addr} {cc cr:Nat} {t:T} {width:Int} {g cap C:Nat} {left:Int} (h:Sp W sb ac ar cc cr t width g cap C left) (x:Int):Sp (W.setCell ⟨sb,7,none⟩ (.int .i64 x)) sb ac ar cc cr t width g cap C x:=(setB h (p:=7) (.int .i64 x)).trans (by simp)
theorem giveTo_small {l:List Int} {js:List Nat} {g:List Int} {M N:Int} (hM:0≤M) (hl:∀ i,0≤l.getD i 0∧l.getD i 0≤M) (hg:∀ i,0≤g.getD i 0∧g.getD i 0≤N):∀ (k:Nat) (i:Nat),0≤(giveTo l js g k).getD i 0∧(giveTo l js g k).getD i 0≤M+k * N
 | 0,i=>by have:=hl i;simp only [giveTo];omega
 | k+1,i=>by
  have h0:=giveTo_small (js:=js) hM hl hg k i
  have h1:=giveTo_small (js:=js) hM hl hg k (js.getD k 0)
  have h2:=hg k
  have e:((k+1:Nat):Int) * N=k * N+N:=by rw [Int.natCast_add,Int.add_mul];simp
  rw [e]
  simp only [giveTo]
  generalize js.getD k 0=j at h1 ⊢
  generalize giveTo l js g k=L at h0 h1 ⊢
  generalize g.getD k 0=x at h2 ⊢
  by_cases hi:i=j
  ·subst hi
   by_cases hlen:i < L.length
   ·have e2:(L.set i (L.getD i 0+x)).getD i 0=L.getD i 0+x:=by rw [List.getD,List.getElem?_set_self hlen,Option.getD_some]
    rw [e2]
    omega
   ·rw [List.set_eq_of_length_le (by omega)]
    omega
  ·have e2:(L.set j (L.getD j 0+x)).getD i 0=L.getD i 0:=by rw [List.getD,List.getElem?_set_ne (Ne.symm hi)];rfl
   rw [e2]
   omega
theorem all_wt {l:List Int} (h:∀ i,i < l.length→0≤l.getD i 0∧l.getD i 0≤100000):l.all wtB=true:=by
 rw [List.all_eq_true]
 intro x hx
 obtain ⟨i,hi,rfl⟩:=List.mem_iff_getElem.1 hx
 have:=h i hi
 rw [show l.getD i 0=l[i] by simp [List.getD,hi]] at this
 simp only [wtB,decide_eq_true_eq]
 exact this
theorem upTo_small {left:Int} {l:List Int} (hok:shrOkB left l=true):(upToL left l).all wtB=true:=by
 obtain ⟨l1,_,_,_,e1⟩:=upTo_total hok
 obtain ⟨_,_,hw⟩:=shrOk_parts hok
 exact all_wt (fun i hi=>by have:=e1 i (by omega);have:=wt_get hw (i:=i) (by omega);omega)
theorem step_lists {L want:List Int} {P:Nat→Bool} {left:Int} (hl:want.length=L.length) (hok:shrOkB left want=true) (hz:∀ i,i < want.length→P i=false→want.getD i 0=0) :
  shrOkB left (selL want P L.length)=true∧(upToL left (selL want P L.length)).length=(selN P L.length).length∧(upToL left (selL want P L.length)).all wtB=true∧left - (upToL left (selL want P L.length)).sum=upToN left want ∧
  giveTo L (selN P L.length) (upToL left (selL want P L.length)) (selN P L.length).length=addL L (upToL left want):=by
 have hok':shrOkB left (selL want P L.length)=true:=by rw [← hl];exact sel_ok hok
 obtain ⟨e1,e2⟩:=upTo_sel hok hz
 rw [hl] at e1 e2
 obtain ⟨a1,a2,a3,a4,a5⟩:=upTo_total hok
 obtain ⟨b1,b2,b3,b4,b5⟩:=upTo_total hok'
 refine ⟨hok',by rw [b1,selL_len],upTo_small hok',by rw [← e2];omega,?_⟩
 rw [e1]
 refine give_all (by omega) (fun i hi hP=>?_)
 have:=a5 i (by omega)
 rw [hz i (by omega) hP] at this
 omega
structure SpS (w0:World) (sb:Nat) (ac ar:Option Addr) (cc cr:Nat) (t:T) (width:Int) (g cap C D:Nat) (left:Int) (L:List Int) (W:World):Prop where
 bel:Below w0.heap.size w0 W
 sp:Sp W sb ac ar cc cr t width g cap C left
 row:RowI W w0.heap.size D (.slice (some ⟨g,0,none⟩) C cap) L
theorem SpS.kept {w0:World} {sb:Nat} {ac ar:Option Addr} {cc cr:Nat} {t:T} {width:Int} {g cap C D:Nat} {left:Int} {L:List Int} {W W':World} (h:SpS w0 sb ac ar cc cr t width g cap C D left L W) (k:Below W.heap.size W W'):SpS w0 sb ac ar cc cr t width g cap C D left L W' :=
 ⟨k_trans h.bel k,h.sp.kept k,h.row.kept (fun j h0 _ _=>k.block j h0)⟩
theorem SpS.bk {w0:World} {sb:Nat} {ac ar:Option Addr} {cc cr:Nat} {t:T} {width:Int} {g cap C D r:Nat} {left:Int} {L:List Int} {W W':World} (h:SpS w0 sb ac ar cc cr t width g cap C D left L W) (k:Bk r W W') (hr:w0.heap.size≤r) (h1:r ≠ sb) (h2:D≤r):SpS w0 sb ac ar cc cr t width g cap C D left L W' :=
 ⟨h.bel.trans (k.below h.bel.size hr),(k.block sb h.sp.lt (Ne.symm h1)).trans h.sp,h.row.kept (fun j h0 _ h3=>k.block j h0 (by omega))⟩
theorem kind_eq (t:T) (q:Int) (k:Nat):((sd t.cols k).1 == q)=kindP t q k:=by rw [Bool.eq_iff_iff];simp [kindP]
set_option maxRecDepth 100000 in
set_option maxHeartbeats 1000000 in
theorem implofKind (sb:Nat) (ac ar:Option Addr) (cc cr:Nat) (t:T) (width:Int) (g cap C:Nat) (left q:Int) (hC:C≤88) (w:World) {z:Nat} (hS:Sp w sb ac ar cc cr t width g cap C left) (hc:ColsAt w z (.slice ac t.cols.length cc) t.cols) :
  Calls Tryz.prog 76 #[.pointer (some ⟨sb,0,none⟩),.int .i64 q] w fun e w'=>∃ v,e=.returned v∧RowI w' w.heap.size w'.heap.size v (natL (selN (kindP t q) C))∧Below w.heap.size w w':=by
 obtain ⟨i0,hi,hz0,hz1,hz2⟩:=info_parts infoIc
 have hf0:=field0
 have HS:=Hd hS
 have HC:=Hd hc
 have s6:w.cell? ⟨sb,6,none⟩=some (.slice (some ⟨g,0,none⟩) C cap):=cellB hS
 clear hS hc
 go_enter Tryz.func76,Tryz.ntmps76
 go_wp2_with fail
 clear s6
 go_loopw [5,12] (fun o i W=>∃ k:Nat,i=.int .i64 k∧k≤C∧Hid (W.ownsRow w.heap.size 3 1 o (natL (selN (kindP t q) k)).length ((natL (selN (kindP t q) k)).map (Value.int .i64)))∧Hid (Below w.heap.size w W)) (fun _ i _=>C - (intOf i).toNat)
 case atStart=>exact ⟨0,rfl,Nat.zero_le _,⟨by simp [natL,selN],.inl ⟨rfl,by simp [natL,selN]⟩⟩,Below.refl _ _⟩
 case round =>
  obtain ⟨k,rfl,hk,HO,HB⟩:=hrel
  by_cases hlt:k < C
  case neg =>
   obtain rfl:k=C:=by omega
   have HR:=Hd (RowI.of_owns HO.out)
   go_wp2
   go_ret
   exact ⟨_,rfl,HR.out.base (Nat.le_refl _) (Nat.le_refl _),HB.out⟩
  have s0:wr.cell? ⟨sb,0,none⟩=some (.slice ac t.cols.length cc):=cellB (HS.out.kept HB.out)
  have KS:=Hd (implsaidOf _ t.cols (k:Int) wr (HC.out.kept HB.out))
  have hkq:=kind_eq t q k
  have hol:(natL (selN (kindP t q) k)).length≤k:=by rw [natL_len];exact selN_le _ _
  generalize sd t.cols k=p at KS hkq
  cases hp:kindP t q k with
  | false =>
   have HL:Hid (natL (selN (kindP t q) (k+1))=natL (selN (kindP t q) k)):=by rw [Hid,selN_no hp]
   rw [hp] at hkq
   clear hp
   go_wp2_with fail
   refine KS.out.mono ?_
   rintro e w1 ⟨rfl,hb1⟩
   have HB1:=Hd (k_trans HB.out hb1)
   have HO1:=Hd (RowI.of_owns HO.out |>.kept (fun j h0 _ _=>hb1.block j h0))
   clear hb1 s0
   go_wp2
   go_roundw
   case rel=>exact ⟨k+1,by go_num,by omega,by rw [HL.out];exact HO1.out.owns,HB1⟩
   case measure=>simp [intOf];omega
  | true =>
   have HL:Hid (natL (selN (kindP t q) (k+1))=natL (selN (kindP t q) k) ++ [(k:Int)]):=by rw [Hid,selN_yes hp,natL_snoc]
   rw [hp] at hkq
   clear hp
   generalize natL (selN (kindP t q) k)=xs at HO HL hol
   go_wp2_with fail
   refine KS.out.mono ?_
   rintro e w1 ⟨rfl,hb1⟩
   have HB1:=Hd (k_trans HB.out hb1)
   have hO4:=(RowI.of_owns HO.out |>.kept (fun j h0 _ _=>hb1.block j h0)).owns
   have hsz:w.heap.size≤w1.heap.size:=HB1.out.size
   clear hb1 s0
   go_wp2_with (at_builtin;refine wpList_append_own _ rfl _ _ 32 rfl w.heap.size 3 i0 (.int .i64 0) 1 8 Tryz.underlying32 hi hz0 hz1 hz2 rfl (by decide) _ _ _ rfl (hO4.alloc _) ⟨w1.heap.size,0,none⟩ 1 1 [.int .i64 (k:Int)] rfl rfl ?c1 ?c2 ?c3 ?c4 ?c5 ?_)
   case c1 =>
    intro i u hi
    match i,hi with
    | 0,hi=>simp at hi;subst hi;simp [Addr.add]
   case c2=>intro u hu;simp at hu;subst hu;rfl
   case c3=>unfold maxLen;omega
   case c4=>omega
   case c5=>simp;omega
   intro v' w5 hown' hgrow' _
   obtain ⟨hB5,_⟩:=app_keeps (Nat.le_refl _) hO4 HB1.out hgrow'
   have HB5:=Hd hB5
   have HO5:Hid (w5.ownsRow w.heap.size 3 1 v' (xs ++ [(k:Int)]).length ((xs ++ [(k:Int)]).map (Value.int .i64))):=by rw [List.length_append,List.map_append];exact hown'
   obtain ⟨g',cap'',rfl⟩:=Joins.ownsRow_form hown' (by omega)
   clear hown' hgrow' hO4 hB5 HO HB HB1
   go_wp2
   go_roundw
   case rel=>exact ⟨k+1,by go_num,by omega,by rw [HL.out];exact HO5,HB5⟩
   case measure=>simp [intOf];omega
end Go.Proofs.YtggmjiddadjilaeGreat
namespace Go.Proofs.YtggmjiddadjilaeGreat
open Go.RowKit Go.BigFrame
theorem getD_small {G:List Int} (h:G.all wtB=true) (i:Nat):0≤G.getD i 0∧G.getD i 0≤100000:=by
 by_cases hi:i < G.length
 ·exact wt_get h hi
 ·rw [show G.getD i 0=0 by simp [List.getD,hi]];omega
set_option maxRecDepth 100000 in
set_option maxHeartbeats 1000000 in
theorem implgive (sb:Nat) (ac ar:Option Addr) (cc cr:Nat) (t:T) (width:Int) (g cap C:Nat) (left:Int) (L G:List Int) (js:List Nat) (vc vg:Value) (B D B1:Nat) (hLC:L.length=C) (hjC:∀ k,k < js.length→js.getD k 0 < C) (hjl:js.length≤88) (hGl:G.length=js.length)
  (hLs:L.all wtB=true) (hGs:G.all wtB=true) (hl:0≤left∧left≤100000) (hgD:g < D) (hDs:D≤sb) (hs1:sb < B1) (w:World) (hS:Sp w sb ac ar cc cr t width g cap C left) (hR:RowI w B D (.slice (some ⟨g,0,none⟩) C cap) L) (h1:RowI w B1 w.heap.size vc (natL js)) (h2:RowI w B1 w.heap.size vg G) :
  Calls Tryz.prog 78 #[.pointer (some ⟨sb,0,none⟩),vc,vg] w fun e w'=>e=.returned (.tuple #[])∧Sp w' sb ac ar cc cr t width g cap C (left - G.sum)∧RowI w' B D (.slice (some ⟨g,0,none⟩) C cap) (giveTo L js G js.length)∧Bk2 g sb w w':=by
 have hmx:Tryz.prog.follows .mixedOrders=true:=by kernel_rfl
 obtain ⟨a1,c1,rfl⟩:=h1.form
 obtain ⟨a2,c2,rfl⟩:=h2.form
 rw [natL_len] at h1 ⊢
 rw [hGl] at h2 ⊢
 have HGl:=Hd hGl
 have H1:=Hd h1
 have H2:=Hd h2
 have HS:=Hd hS
 have HR:=Hd hR
 have HSm:=Hd (fun k i=>giveTo_small (js:=js) (M:=100000) (N:=100000) (by omega) (getD_small hLs) (getD_small hGs) k i)
 have HSu:=Hd (sumTo_bound hGs)
 have HGg:=Hd (getD_small hGs)
 have HjC:=Hd hjC
 have HE:Hid (left - G.sum=left - sumTo G js.length):=by rw [Hid,← hGl,sumTo_all]
 have HSu:Hid (∀ k,k≤js.length→0≤sumTo G k∧sumTo G k≤k * 100000):=fun k hk=>HSu.out k (by omega)
 clear h1 h2 hS hR hLs hGs hjC hGl
 go_enter Tryz.func78,Tryz.ntmps78
 go_wp2_with fail
 go_loopw [10] (fun s W=>∃ k:Nat,s=.int .i64 k∧k≤js.length∧Hid (Sp W sb ac ar cc cr t width g cap C (left - sumTo G k))∧Hid (RowI W B D (.slice (some ⟨g,0,none⟩) C cap) (giveTo L js G k))∧Hid (Bk2 g sb w W)) (fun s _=>js.length - (intOf s).toNat)
 case atStart=>exact ⟨0,rfl,Nat.zero_le _,by rw [show left - sumTo G 0=left by simp [sumTo]];exact HS,HR,Bk2.refl _ _ _⟩
 case round =>
  clear HS HR
  obtain ⟨k,rfl,hk,HS,HR,HB⟩:=hrel
  by_cases hlt:k < js.length
  case neg =>
   obtain rfl:k=js.length:=by omega
   go_wp2
   first
    | go_end0
    | skip
   exact ⟨rfl,by rw [HE.out];exact HS.out,HR.out,HB.out⟩
  obtain ⟨b1,c1',e1,hb1B,_,hb1w,hc11,hc12,hx1,_⟩:=(H1.out.bk2 HB.out (.inl (by omega)) (.inl hs1)).get (i:=k) (by rw [natL_len];exact hlt)
  rw [natL_len] at e1 hc11
  rw [natL_get hlt] at hx1
  simp only [Value.slice.injEq,true_and] at e1
  obtain ⟨rfl,rfl⟩:=e1
  obtain ⟨b2,c2',e2,hb2B,_,hb2w,hc21,hc22,hx2,_⟩:=(H2.out.bk2 HB.out (.inl (by omega)) (.inl hs1)).get (i:=k) (by rw [HGl.out];exact hlt)
  rw [HGl.out] at e2 hc21
  simp only [Value.slice.injEq,true_and] at e2
  obtain ⟨rfl,rfl⟩:=e2
  have hj:=HjC.out k hlt
  have hgs:=giveTo_len L js G k
  obtain ⟨g',cap',e3,hgB,_,hgw,hc31,hc32,hx3,hf3⟩:=HR.out.get (i:=js.getD k 0) (by omega)
  rw [hgs,hLC] at e3 hc31
  simp only [Value.slice.injEq,Option.some.injEq,Addr.mk.injEq,and_true,true_and] at e3
  obtain ⟨rfl,rfl⟩:=e3
  have hs3:=HSm.out k (js.getD k 0)
  have hy:=HGg.out k
  have hsu:=HSu.out k (by omega)
  have HG1:Hid (giveTo L js G (k+1)=(giveTo L js G k).set (js.getD k 0) ((giveTo L js G k).getD (js.getD k 0) 0+G.getD k 0)):=rfl
  have HG2:Hid (left - sumTo G (k+1)=left - sumTo G k - G.getD k 0):=by rw [Hid,sumTo_succ (by rw [HGl.out];exact hlt)];omega
  unfold maxLen at hc12 hc22 hc32
  have hne:=bw_some wr
  have m0:=bw_cell (a:=⟨sb,6,none⟩) HS.out.lt (cellB (p:=6) HS.out)
  have m1:=bw_cell (a:=⟨g,js.getD k 0,none⟩) hgw hx3
  have m2:=bw_cell (a:=⟨b2,k,none⟩) hb2w hx2
  generalize sumTo G k=su at HS hsu HG2
  generalize hjj:js.getD k 0=j at *
  generalize hxx:(giveTo L js G k).getD j 0=x at *
  generalize hyy:G.getD k 0=y at *
  clear hx2 hx3 hf3
  go_upto_region 3 with fail
  clear hx1
  refine wp_region_last 13 hmx (by rfl) (by rfl) (by kernel_rfl) (by kernel_rfl) ?_
  simp only [List.take_succ_cons,List.take_zero]
  repeat (go_big_quiet_step (fail))
  refine wpQuiet_nil ?_
  intro W5 hw'
  obtain ⟨⟨Wx,hW5⟩,hw''⟩:=hw'
  subst hw''
  have hlj:j < (giveTo L js G k).length:=by omega
  have HR5:=Hd ((HR.out.kept (fun i h0 _ _=>hW5.block i h0)).set (i:=j) hlj (x+y))
  rw [← HG1.out] at HR5
  have HS5:=Hd ((HS.out.kept hW5).other (p:=⟨g,j,none⟩) (show sb ≠ g by omega) (.int .i64 (x+y)))
  have HB5:=Hd ((HB.out.trans (Bk2.of_below hW5)).set (p:=⟨g,j,none⟩) (.inl rfl) (.int .i64 (x+y)))
  obtain ⟨g5,cap5,e5,_,_,hgw5,_,_,hx5,hf5⟩:=(HR.out.kept (fun i h0 _ _=>hW5.block i h0)).get (i:=j) hlj
  simp only [Value.slice.injEq,Option.some.injEq,Addr.mk.injEq,and_true] at e5
  have eg:=e5.1
  clear e5
  subst eg
  clear m0 m1 m2 hne hW5 HR HS HB HG1 hs3
  rw [if_pos (by rfl)]
  go_simp
  clear hx5 hf5
  go_upto_region 4 with fail
  generalize W5.setCell ⟨g,j,none⟩ (.int .i64 (x+y))=W6 at HR5 HS5 HB5 ⊢
  obtain ⟨b2',c2'',e2,_,_,hb2w',_,_,hx2,_⟩:=(H2.out.bk2 HB5.out (.inl (by omega)) (.inl hs1)).get (i:=k) (by rw [HGl.out];exact hlt)
  rw [HGl.out] at e2
  simp only [Value.slice.injEq,Option.some.injEq,Addr.mk.injEq,and_true,true_and] at e2
  obtain ⟨rfl,rfl⟩:=e2
  rw [hyy] at hx2
  have hne:=bw_some W6
  have m0:=bw_cell (a:=⟨sb,7,none⟩) HS5.out.lt (cellB (p:=7) HS5.out)
  have m2:=bw_cell (a:=⟨b2,k,none⟩) hb2w' hx2
  clear hx2
  refine wp_region_last 11 hmx (by rfl) (by rfl) (by kernel_rfl) (by kernel_rfl) ?_
  simp only [List.take_succ_cons,List.take_zero]
  repeat (go_big_quiet_step (fail))
  refine wpQuiet_nil ?_
  intro W7 hw'
  obtain ⟨⟨Wy,hW7⟩,hw''⟩:=hw'
  subst hw''
  have HR7:=Hd ((HR5.out.kept (fun i h0 _ _=>hW7.block i h0)).kept (w':=W7.setCell ⟨sb,7,none⟩ (.int .i64 (left - su - y))) (fun i _ _ h2=>Below.heap_setCell _ _ _ _ (show i ≠ sb by omega)))
  have HS7:=Hd ((HS5.out.kept hW7).left (left - su - y))
  have HB7:=Hd ((HB5.out.trans (Bk2.of_below hW7)).set (p:=⟨sb,7,none⟩) (.inr rfl) (.int .i64 (left - su - y)))
  have hq7:W7.cell? ⟨sb,7,none⟩=some (.int .i64 (left - su)):=cellB (p:=7) (HS5.out.kept hW7)
  have hf7:W7.frozen? ⟨sb,7,none⟩=false:=freeB (p:=7) (HS5.out.kept hW7)
  clear m0 m2 hne hW7 HR5 HS5 HB5
  rw [if_pos (by rfl)]
  go_simp
  go_wp2
  go_roundw
  case rel=>exact ⟨k+1,by go_num,by omega,by rw [HG2.out];exact HS7,HR7,HB7⟩
  case measure=>simp [intOf];omega
end Go.Proofs.YtggmjiddadjilaeGreat
