/-
  PROVED HERE: how wide columns are, as lists: at least, and what is left to parts, to others up to what they would be, and the rest alike; all of the width is used, and no column is less wide than at least. Also: how wide columns are, if the table may be so wide: a list. Also: the lines of each cell of a grid, as lists: how many, how long. Also: how high the rows of a drawn table are, as a list; what the program adds to a row is what is lacking. Also: the program's cellOf is a cell at its place in a drawn table; nothing that was in memory is turned. Also: the program's textOf is the text of a cell at its place in a drawn table; nothing that was in memory is turned.
-/
import Derived.Test.YtcbibdhlkdcmiafGreatB32
import Derived.Test.YtcbibdhlkdcmiafGreatB22
import Derived.Test.YtcbibdhlkdcmiafGreatB5
import Derived.Test.YtcbibdhlkdcmiafGreatB31
import Derived.Test.YtcbibdhlkdcmiafGreatB21
import Derived.Test.YtcbibdhlkdcmiafGreatB23
import Derived.Deep.DeepCutAuto
import Derived.Deep.RegionWith
import Derived.Deep.QuietTactic
import Derived.BigQuiet
namespace Go.Proofs.YtcbibdhlkdcmiafGreat
open Go.RowKit

/-- whether a column is of a kind -/
def kindP (t:T) (q:Int) (k:Nat):Bool:=decide ((sd t.cols k).1=q)
/-- what is left beyond what columns have -/
def restV (t:T) (width:Int):Int:=width - ((leastL t).sum+t.gap * ((colN t:Int) - 1))
/-- what parts want -/
def want1 (t:T) (width:Int) (l:List Int):List Int:=(List.range l.length).map (fun k=>if kindP t 2 k=true then max 0 (width * (sd t.cols k).2 / 100 - l.getD k 0) else 0)
/-- what others want -/
def want2 (t:T) (l:List Int):List Int:=(List.range l.length).map (fun k=>if kindP t 0 k=true then max 0 ((wishL t).getD k 0 - l.getD k 0) else 0)
def out1 (t:T) (width:Int):List Int:=addL (leastL t) (upToL (restV t width) (want1 t width (leastL t)))
def left1 (t:T) (width:Int):Int:=upToN (restV t width) (want1 t width (leastL t))
def out2 (t:T) (width:Int):List Int:=addL (out1 t width) (upToL (left1 t width) (want2 t (out1 t width)))
def left2 (t:T) (width:Int):Int:=upToN (left1 t width) (want2 t (out1 t width))
/-- how wide columns are -/
def widL (t:T) (width:Int):List Int :=
 if restV t width≤0 then leastL t
 else if 0 < (selN (kindP t 0) (colN t)).length then addL (out2 t width) (shareL (left2 t width) (oneL (kindP t 0) (colN t)))
 else if 0 < (selN (kindP t 2) (colN t)).length then addL (out2 t width) (shareL (left2 t width) (oneL (kindP t 2) (colN t)))
 else out2 t width
theorem addL_len {a b:List Int} (h:b.length=a.length):(addL a b).length=a.length:=by unfold addL;rw [List.length_zipWith,h];omega
theorem addL_sum {a b:List Int} (h:b.length=a.length):(addL a b).sum=a.sum+b.sum:=sum_zip a b h.symm
theorem addL_get {a b:List Int} (h:b.length=a.length) {i:Nat} (hi:i < a.length):(addL a b).getD i 0=a.getD i 0+b.getD i 0:=by
 have hb:i < b.length:=by omega
 have hz:i < (List.zipWith (·+·) a b).length:=by rw [List.length_zipWith];omega
 unfold addL
 simp only [List.getD,List.getElem?_eq_getElem hi,List.getElem?_eq_getElem hb,List.getElem?_eq_getElem hz,Option.getD_some,List.getElem_zipWith]
theorem want1_len (t:T) (width:Int) (l:List Int):(want1 t width l).length=l.length:=by simp [want1]
theorem want2_len (t:T) (l:List Int):(want2 t l).length=l.length:=by simp [want2]
theorem want1_get {t:T} {width:Int} {l:List Int} {k:Nat} (h:k < l.length):(want1 t width l).getD k 0=if kindP t 2 k=true then max 0 (width * (sd t.cols k).2 / 100 - l.getD k 0) else 0:=by simp [want1,List.getD,h]
theorem want2_get {t:T} {l:List Int} {k:Nat} (h:k < l.length):(want2 t l).getD k 0=if kindP t 0 k=true then max 0 ((wishL t).getD k 0 - l.getD k 0) else 0:=by simp [want2,List.getD,h]
theorem ok_of {t:Int} {l:List Int} (ht:0≤t∧t≤100000) (hl:l.length≤100) (h:∀ i,i < l.length→0≤l.getD i 0∧l.getD i 0≤100000):shrOkB t l=true:=by
 simp only [shrOkB,Bool.and_eq_true,decide_eq_true_eq,List.all_eq_true]
 refine ⟨⟨by simp only [wtB,decide_eq_true_eq];exact ht,hl⟩,fun x hx=>?_⟩
 obtain ⟨i,hi,rfl⟩:=List.mem_iff_getElem.1 hx
 have:=h i hi
 rw [show l.getD i 0=l[i] by simp [List.getD,hi]] at this
 simp only [wtB,decide_eq_true_eq]
 exact this
/-- what is shared up to what each wants, and what is left, is all of it -/
theorem upTo_total {t:Int} {l:List Int} (hok:shrOkB t l=true):(upToL t l).length=l.length∧(upToL t l).sum+upToN t l=t∧0≤upToN t l∧upToN t l≤t∧∀ i,i < l.length→0≤(upToL t l).getD i 0∧(upToL t l).getD i 0≤l.getD i 0:=by
 obtain ⟨ht,hlen,hw⟩:=shrOk_parts hok
 have hg:∀ i,i < l.length→0≤l.getD i 0:=fun i hi=>(wt_get hw hi).1
 by_cases hs:l.sum≤t
 ·rw [(upTo_all hok hs).1,(upTo_all hok hs).2]
  have h0:0≤l.sum:=(sum_bound hw).1
  exact ⟨rfl,by omega,by omega,by omega,fun i hi=>⟨hg i hi,Int.le_refl _⟩⟩
 ·rw [(upTo_share hok hs).1,(upTo_share hok hs).2]
  have hpos:0 < l.length:=by
   cases l with
   | nil=>simp at hs;omega
   | cons _ _=>simp
  exact ⟨shareL_len hok,by rw [share_sum hok hpos];omega,Int.le_refl _,ht.1,fun i hi=>share_upto hok (by omega) hi⟩
theorem sd_kind {t:T} {k:Nat} (hk:k < colN t):((sd t.cols k).1=0)∨((sd t.cols k).1=1∧0≤(sd t.cols k).2∧(sd t.cols k).2≤60)∨((sd t.cols k).1=2∧1≤(sd t.cols k).2∧(sd t.cols k).2≤100):=by
 cases h:tblB t with
 | false=>unfold colN at hk;rw [gOf_no h] at hk;exact absurd hk (Nat.not_lt_zero _)
 | true =>
  simp only [tblB,colsB,Bool.and_eq_true,List.all_eq_true] at h
  by_cases hl:k < t.cols.length
  ·rw [sd_yes hl]
   have:=h.2.2.2.1.2 (t.cols.getD k (0,0)) (by rw [show t.cols.getD k (0,0)=t.cols[k] by simp [List.getD,hl]];exact List.getElem_mem hl)
   simp only [colB,decide_eq_true_eq] at this
   omega
  ·rw [sd_no (inB_false (by omega))]
   exact .inl rfl
theorem part_small {width n:Int} (hw:0≤width∧width≤300) (hn:1≤n∧n≤100):0≤width * n / 100∧width * n / 100≤300:=by
 have h1:0≤width * n:=Int.mul_nonneg hw.1 (by omega)
 have h2:width * n≤300 * 100:=Int.mul_le_mul hw.2 hn.2 (by omega) (by omega)
 omega
/-- all three steps: what is known of them -/
theorem wid_steps {t:T} (hD:Drawn t) (hok:tblB t=true) {width:Int} (hw:0≤width∧width≤300) (hr:0 < restV t width) :
  shrOkB (restV t width) (want1 t width (leastL t))=true∧shrOkB (left1 t width) (want2 t (out1 t width))=true∧(0≤left2 t width∧left2 t width≤300)∧(out1 t width).length=colN t∧(out2 t width).length=colN t∧(out2 t width).sum+left2 t width=(leastL t).sum+restV t width ∧
  (∀ k,k < colN t→(leastL t).getD k 0≤(out1 t width).getD k 0∧(out1 t width).getD k 0≤(out2 t width).getD k 0∧(kindP t 2 k=false→(out1 t width).getD k 0=(leastL t).getD k 0)∧(kindP t 0 k=false→(out2 t width).getD k 0=(out1 t width).getD k 0)):=by
 obtain ⟨_,C,hgc,hC,hcel⟩:=cel_of hD
 have hCN:=colN_of hgc
 have hlen:=leastL_len t
 have hup:=leastL_up hD
 have hsb:=sum_upB (l:=leastL t) (B:=5000) (fun x hx=>hup.mem hx)
 have hC1:1≤colN t:=by
  have h1:(gOf t).cols=colsOf (max 1 (t.cols.length:Int)) (gridOf t):=by rw [gOf_ok hok]
  have h2:=colsOf_ge (gridOf t) (max 1 (t.cols.length:Int))
  unfold colN
  omega
 have hg:0≤t.gap∧t.gap≤3:=by
  simp only [tblB,inB,Bool.and_eq_true,decide_eq_true_eq] at hok
  exact hok.2.2.1
 have hgap:0≤t.gap * ((colN t:Int) - 1):=Int.mul_nonneg hg.1 (by omega)
 have hr300:restV t width≤300:=by unfold restV;omega
 have ok1:shrOkB (restV t width) (want1 t width (leastL t))=true:=ok_of (by omega) (by rw [want1_len,hlen];omega) (fun i hi=>by
  rw [want1_len] at hi
  rw [want1_get hi]
  have hu:=hup i hi
  split
  ·rename_i hp
   have hk:=sd_kind (t:=t) (k:=i) (by rw [← hlen];exact hi)
   simp only [kindP,decide_eq_true_eq] at hp
   have:=part_small hw (n:=(sd t.cols i).2) (by omega)
   omega
  ·omega)
 obtain ⟨l1,s1,n1,m1,e1⟩:=upTo_total ok1
 rw [want1_len] at l1 e1
 have ho1:(out1 t width).length=colN t:=by unfold out1;rw [addL_len l1,hlen]
 have g1:∀ k,k < colN t→(out1 t width).getD k 0=(leastL t).getD k 0+(upToL (restV t width) (want1 t width (leastL t))).getD k 0:=fun k hk=>by unfold out1;exact addL_get l1 (by rw [hlen];exact hk)
 have hl1:0≤left1 t width∧left1 t width≤300:=by unfold left1;omega
 have ok2:shrOkB (left1 t width) (want2 t (out1 t width))=true:=ok_of (by omega) (by rw [want2_len,ho1];omega) (fun i hi=>by
  rw [want2_len] at hi
  rw [want2_get hi]
  have hi':i < colN t:=by rw [← ho1];exact hi
  have hwu:=wishL_up hD i (by rw [wishL_len];exact hi')
  have h3:=g1 i hi'
  have h4:=hup i (by rw [hlen];exact hi')
  have h5:=e1 i (by rw [hlen];exact hi')
  split <;> omega)
 obtain ⟨l2,s2,n2,m2,e2⟩:=upTo_total ok2
 rw [want2_len] at l2 e2
 have ho2:(out2 t width).length=colN t:=by unfold out2;rw [addL_len l2,ho1]
 have g2:∀ k,k < colN t→(out2 t width).getD k 0=(out1 t width).getD k 0+(upToL (left1 t width) (want2 t (out1 t width))).getD k 0:=fun k hk=>by unfold out2;exact addL_get l2 (by rw [ho1];exact hk)
 refine ⟨ok1,ok2,by unfold left2;omega,ho1,ho2,?_,fun k hk=>?_⟩
 ·have a1:(out1 t width).sum=(leastL t).sum+(upToL (restV t width) (want1 t width (leastL t))).sum:=by unfold out1;exact addL_sum l1
  have a2:(out2 t width).sum=(out1 t width).sum+(upToL (left1 t width) (want2 t (out1 t width))).sum:=by unfold out2;exact addL_sum l2
  have a3:left1 t width=upToN (restV t width) (want1 t width (leastL t)):=rfl
  have a4:left2 t width=upToN (left1 t width) (want2 t (out1 t width)):=rfl
  rw [a2,a1,a4]
  omega
 ·have b1:=e1 k (by rw [hlen];exact hk)
  have b2:=e2 k (by rw [ho1];exact hk)
  rw [want1_get (by rw [hlen];exact hk)] at b1
  rw [want2_get (by rw [ho1];exact hk)] at b2
  have c1:=g1 k hk
  have c2:=g2 k hk
  refine ⟨by omega,by omega,fun h=>?_,fun h=>?_⟩
  ·rw [if_neg (by rw [h];simp)] at b1
   omega
  ·rw [if_neg (by rw [h];simp)] at b2
   omega
theorem oneL_sum {P:Nat→Bool} {n:Nat}:(oneL P n).sum=((selN P n).length:Int):=by
 have hz:∀ i,i < (oneL P n).length→P i=false→(oneL P n).getD i 0=0:=fun i hi hP=>by
  rw [oneL_len] at hi
  rw [oneL_get hi,if_neg (by rw [hP];simp)]
 have:=selL_sum (l:=oneL P n) (P:=P) (oneL P n).length (Nat.le_refl _) hz
 rw [sumTo_all,oneL_len,sel_one,sum_ones] at this
 exact this.symm
theorem selN_none {P:Nat→Bool} {n:Nat} (h:¬ 0 < (selN P n).length) {k:Nat} (hk:k < n):P k=false:=by
 cases hP:P k with
 | false=>rfl
 | true =>
  have:k ∈ selN P n:=by unfold selN;rw [List.mem_filter];exact ⟨List.mem_range.2 hk,hP⟩
  exact absurd (List.length_pos_of_mem this) h
/-- the last share -/
theorem last_share {P:Nat→Bool} {n:Nat} {t:Int} {l:List Int} (hl:l.length=n) (hn:n≤100) (ht:0≤t∧t≤300) (h0:0 < (selN P n).length) :
  (addL l (shareL t (oneL P n))).length=n∧(addL l (shareL t (oneL P n))).sum=l.sum+t∧∀ k,k < n→l.getD k 0≤(addL l (shareL t (oneL P n))).getD k 0∧(P k=false→(addL l (shareL t (oneL P n))).getD k 0=l.getD k 0):=by
 have hok:=oneL_ok P (n:=n) (t:=t) (by omega) hn
 have hs:=shareL_len hok
 rw [oneL_len] at hs
 have hpos:0 < n:=by
  have:=(selN_get h0).1
  omega
 refine ⟨by rw [addL_len (by rw [hs,hl]),hl],by rw [addL_sum (by rw [hs,hl]),share_sum hok (by rw [oneL_len];exact hpos)],fun k hk=>?_⟩
 rw [addL_get (by rw [hs,hl]) (by rw [hl];exact hk)]
 have h1:=shareL_small (t:=t) (l:=oneL P n) k (by rw [hs];exact hk)
 refine ⟨by omega,fun hP=>?_⟩
 rw [share_zero hok (by rw [oneL_sum];omega) (by rw [oneL_len];exact hk) (by rw [oneL_get hk,if_neg (by rw [hP];simp)])]
 omega
/-- whether of all columns a width is said -/
def allFix (t:T):Bool:=(List.range (colN t)).all (fun k=>kindP t 1 k)
theorem wid_facts {t:T} (hD:Drawn t) (hok:tblB t=true) {width:Int} (hw:0≤width∧width≤300) :
  (widL t width).length=colN t∧(widL t width).sum+t.gap * ((colN t:Int) - 1)=(if width < (leastL t).sum+t.gap * ((colN t:Int) - 1)∨allFix t=true then (leastL t).sum+t.gap * ((colN t:Int) - 1) else width) ∧
  ∀ k,k < colN t→(leastL t).getD k 0≤(widL t width).getD k 0∧(kindP t 1 k=true→(widL t width).getD k 0=(leastL t).getD k 0):=by
 obtain ⟨_,C,hgc,hC,hcel⟩:=cel_of hD
 have hCN:=colN_of hgc
 have hk1:∀ k,kindP t 1 k=true→kindP t 0 k=false∧kindP t 2 k=false:=fun k h=>by
  simp only [kindP,decide_eq_true_eq] at h
  simp [kindP,h]
 by_cases hr:restV t width≤0
 ·have e:widL t width=leastL t:=by unfold widL;rw [if_pos hr]
  rw [e]
  refine ⟨leastL_len t,?_,fun k _=>⟨Int.le_refl _,fun _=>rfl⟩⟩
  unfold restV at hr
  split
  ·rfl
  ·rename_i hn
   have:¬ width < (leastL t).sum+t.gap * ((colN t:Int) - 1):=fun h=>hn (.inl h)
   omega
 ·obtain ⟨_,_,hl2,_,ho2,hsum,hk⟩:=wid_steps hD hok hw (by omega)
  have hrr:restV t width=width - ((leastL t).sum+t.gap * ((colN t:Int) - 1)):=rfl
  have hnl:¬ width < (leastL t).sum+t.gap * ((colN t:Int) - 1):=by omega
  by_cases h0:0 < (selN (kindP t 0) (colN t)).length
  ·have e:widL t width=addL (out2 t width) (shareL (left2 t width) (oneL (kindP t 0) (colN t))):=by unfold widL;rw [if_neg hr,if_pos h0]
   obtain ⟨a1,a2,a3⟩:=last_share ho2 (by omega) hl2 h0
   have hnf:¬ allFix t=true:=fun h=>by
    have hg:=selN_get h0
    have:=List.all_eq_true.1 h _ (List.mem_range.2 hg.1)
    have:=(hk1 _ this).1
    rw [hg.2] at this
    cases this
   rw [e]
   refine ⟨a1,?_,fun k hkk=>?_⟩
   ·rw [if_neg (by rintro (h | h);exact hnl h;exact hnf h),a2]
    omega
   ·have b1:=a3 k hkk
    have b2:=hk k hkk
    refine ⟨by omega,fun h=>?_⟩
    have c:=hk1 k h
    rw [b1.2 c.1,b2.2.2.2 c.1,b2.2.2.1 c.2]
  ·by_cases h2:0 < (selN (kindP t 2) (colN t)).length
   ·have e:widL t width=addL (out2 t width) (shareL (left2 t width) (oneL (kindP t 2) (colN t))):=by unfold widL;rw [if_neg hr,if_neg h0,if_pos h2]
    obtain ⟨a1,a2,a3⟩:=last_share ho2 (by omega) hl2 h2
    have hnf:¬ allFix t=true:=fun h=>by
     have hg:=selN_get h2
     have:=List.all_eq_true.1 h _ (List.mem_range.2 hg.1)
     have:=(hk1 _ this).2
     rw [hg.2] at this
     cases this
    rw [e]
    refine ⟨a1,?_,fun k hkk=>?_⟩
    ·rw [if_neg (by rintro (h | h);exact hnl h;exact hnf h),a2]
     omega
    ·have b1:=a3 k hkk
     have b2:=hk k hkk
     refine ⟨by omega,fun h=>?_⟩
     have c:=hk1 k h
     rw [b1.2 c.2,b2.2.2.2 c.1,b2.2.2.1 c.2]
   ·have e:widL t width=out2 t width:=by unfold widL;rw [if_neg hr,if_neg h0,if_neg h2]
    have hfx:allFix t=true:=List.all_eq_true.2 (fun k hkr=>by
     have hkk:=List.mem_range.1 hkr
     have n0:=selN_none h0 hkk
     have n2:=selN_none h2 hkk
     have:=sd_kind hkk
     simp only [kindP,decide_eq_false_iff_not] at n0 n2
     simp only [kindP,decide_eq_true_eq]
     omega)
    have heq:out2 t width=leastL t:=by
     apply List.ext_getElem (by rw [ho2,leastL_len])
     intro i h1 h3
     have hi:i < colN t:=by rw [ho2] at h1;exact h1
     have b:=hk i hi
     have:=(b.2.2.2 (selN_none h0 hi)).trans (b.2.2.1 (selN_none h2 hi))
     simpa [List.getD,h1,h3] using this
    rw [e,heq]
    refine ⟨leastL_len t,by rw [if_pos (.inr hfx)],fun k _=>⟨Int.le_refl _,fun _=>rfl⟩⟩
end Go.Proofs.YtcbibdhlkdcmiafGreat
namespace Go.Proofs.YtcbibdhlkdcmiafGreat
open Go.RowKit

/-- how wide columns are, if it may be so wide -/
def widT (t:T) (width:Int):List Int:=if (tblB t && inB width 0 300)=true then widL t width else []
end Go.Proofs.YtcbibdhlkdcmiafGreat
namespace Go.Proofs.YtcbibdhlkdcmiafGreat
open Go.RowKit

/-- a cell's lines, by how wide columns are -/
def lnsOf (t:T) (l:List Int) (x:GC):List ByteArray:=lnOut (lnSt (cellV l t.gap x) (wordsW (textOf t x)))
def linesL (t:T) (l:List Int) (gs:List GC):List (List ByteArray):=gs.map (lnsOf t l)
/-- the lines of each cell, if the table may be so wide -/
def linesT (t:T) (width:Int):List (List ByteArray):=if (tblB t && inB width 0 300)=true then linesL t (widL t width) (gOf t).cells else []
theorem cellV_i64 (l:List Int) (gap:Int) (x:GC):-9223372036854775808≤cellV l gap x∧cellV l gap x≤9223372036854775807:=by
 unfold cellV acrV
 split
 ·omega
 ·exact W_bounds _
theorem linesL_len (t:T) (l:List Int) (gs:List GC):(linesL t l gs).length=gs.length:=by simp [linesL]
theorem linesL_get (t:T) (l:List Int) {gs:List GC} {k:Nat} (h:k < gs.length):(linesL t l gs).getD k []=lnsOf t l (gs.getD k dG):=by simp [linesL,List.getD,h]
theorem linesL_next (t:T) (l:List Int) {gs:List GC} {k:Nat} (h:k < gs.length):(linesL t l gs).take (k+1)=(linesL t l gs).take k ++ [lnsOf t l (gs.getD k dG)]:=by
 rw [List.take_succ_eq_append_getElem (by rw [linesL_len];exact h)]
 simp [linesL,List.getD,h]
theorem lnsOf_len (t:T) (l:List Int) (x:GC):(lnsOf t l x).length≤31:=by
 have h1:=(out_bound (cellV l t.gap x) (wordsW (textOf t x))).1
 have h2:=wordsW_len (textOf t x)
 unfold lnsOf
 omega
theorem lnsOf_size (t:T) (l:List Int) (x:GC):∀ y ∈ lnsOf t l x,y.size≤maxLen:=by
 refine line_le (n:=maxLen) ?_ _ (fun y _=>?_)
 ·have:=(cellV_i64 l t.gap x).2
  unfold maxLen
  omega
 ·have:=y.2.2
  unfold maxLen
  omega
theorem linesL_size (t:T) (l:List Int) (gs:List GC):∀ k ∈ linesL t l gs,∀ y ∈ k,y.size≤maxLen:=by
 intro k hk y hy
 obtain ⟨x,_,rfl⟩:=List.mem_map.1 hk
 exact lnsOf_size t l x y hy
end Go.Proofs.YtcbibdhlkdcmiafGreat
namespace Go.Proofs.YtcbibdhlkdcmiafGreat
open Go.RowKit

def rowsOfT (t:T) (l:List Int):List Int:=rowsL (rcs (gOf t).cells (linesL t l (gOf t).cells)) t.rows.length
/-- how high rows are, if the table may be so wide -/
def rowsT (t:T) (width:Int):List Int:=if (tblB t && inB width 0 300)=true then rowsOfT t (widL t width) else []
theorem gRows {t:T} (hok:tblB t=true):(gOf t).rows=(t.rows.length:Nat):=by rw [gOf_ok hok]
theorem gCell {t:T} (hD:Drawn t) (hok:tblB t=true):∀ k,k < (gOf t).cells.length→∃ a m:Nat,((gOf t).cells.getD k dG).row=a∧((gOf t).cells.getD k dG).rows=m∧1≤m∧a+m≤t.rows.length:=by
 intro k hk
 have hl:=low_of hok hD
 rw [gOf_ok hok] at hk ⊢
 have hs:=stands_of hl (getD_mem' (d:=dG) (show k < (gridOf t).length from hk))
 unfold Stands at hs
 exact ⟨((gridOf t).getD k dG).row.toNat,((gridOf t).getD k dG).rows.toNat,by show ((gridOf t).getD k dG).row=_;omega,by show ((gridOf t).getD k dG).rows=_;omega,by omega,by omega⟩
theorem gMono {t:T} (hD:Drawn t) (hok:tblB t=true) (j:Nat):∀ k,j≤k→k < (gOf t).cells.length→((gOf t).cells.getD j dG).row≤((gOf t).cells.getD k dG).row
 | 0,h,_=>by
  obtain rfl:j=0:=by omega
  exact Int.le_refl _
 | k+1,h,hk=>by
  rcases Nat.lt_or_ge k j with h1 | h1
  ·obtain rfl:j=k+1:=by omega
   exact Int.le_refl _
  ·have ih:=gMono hD hok j k h1 (by omega)
   have hl:=low_of hok hD
   have hk':k+1 < (gridOf t).length:=by rw [gOf_ok hok] at hk;exact hk
   have ha:=(laid_of hl hk').after (by omega)
   rw [gOf_ok hok] at ih ⊢
   have e1:(⟨(t.rows.length:Int),colsOf (max 1 (t.cols.length:Int)) (gridOf t),gridOf t⟩:G).cells=gridOf t:=rfl
   rw [e1] at ih ⊢
   have e2:k+1 - 1=k:=by omega
   rw [e2] at ha
   omega
theorem gLen {t:T} (hD:Drawn t):(gOf t).cells.length≤40:=(cel_of hD).1
theorem tRows {t:T} (hD:Drawn t) (hok:tblB t=true):t.rows.length≤8:=(low_of hok hD).rows
theorem lnAll (t:T) (l:List Int) (gs:List GC):∀ k,k < gs.length→((linesL t l gs).getD k []).length≤1000:=fun k hk=>by
 rw [linesL_get t l hk]
 have:=lnsOf_len t l (gs.getD k dG)
 omega
theorem rc_le (t:T) (l:List Int) (gs:List GC):∀ c ∈ rcs gs (linesL t l gs),c.2.2≤1000:=rcs_all (linesL_len t l gs) (fun k hk=>by have:=lnAll t l gs k hk;show (((linesL t l gs).getD k []).length:Int)≤1000;omega)

/-- a cell's rows, one by one -/
theorem high_span {l:List Int} {x:GC} {a m:Nat} (hr:x.row=a) (hm:x.rows=m) (h1:1≤m) (h2:a+m≤l.length) (hb:-9223372036854775808≤sumTo l (a+m) - sumTo l a∧sumTo l (a+m) - sumTo l a≤9223372036854775807):highV l x=sumTo l (a+m) - sumTo l a:=by
 obtain ⟨e1,e2⟩:=own_span (l:=l) (x:=hgtG x) (c:=a) (m:=m) hr hm l.length (Nat.le_refl _)
 have e3:min l.length (a+m)=a+m:=by omega
 have e4:min l.length a=a:=by omega
 rw [e3,e4] at e2
 unfold highV cellV
 rw [acrV_cons (by rw [e1];omega),e2,Int.zero_mul,Int.add_zero,W_small hb]
theorem sum_hs (cs:List RCell) (R r k:Nat) {a:Nat} (ha:a≤r):sumTo (hsL cs R r k) (r+1) - sumTo (hsL cs R r k) a=(rowsL cs r).sum - sumTo (rowsL cs r) a+curV cs r k:=by
 have h1:sumTo (hsL cs R r k) a=sumTo (rowsL cs r) a:=by
  rw [sumTo,sumTo,hsL,List.take_append_of_le_length (by rw [rowsL_len];exact ha)]
 have h2:sumTo (hsL cs R r k) (r+1)=(rowsL cs r).sum+curV cs r k:=by
  rw [sumTo,hsL,List.take_append,rowsL_len,show r+1 - r=1 by omega,List.take_of_length_le (by rw [rowsL_len];omega)]
  simp
 rw [h1,h2]
 omega
theorem span_le {cs:List RCell} (hc:∀ c ∈ cs,c.2.2≤1000) {r:Nat} (hr:r≤88) (a:Nat):0≤(rowsL cs r).sum - sumTo (rowsL cs r) a∧(rowsL cs r).sum - sumTo (rowsL cs r) a≤88000:=by
 refine ⟨span_nn (rows_nn cs r) a,?_⟩
 have h1:(rowsL cs r).sum=((rowsL cs r).take a).sum+((rowsL cs r).drop a).sum:=by rw [← List.sum_append,List.take_append_drop]
 have h2:=sum_upM (l:=(rowsL cs r).drop a) (fun x hx=>⟨rows_nn cs r x (List.mem_of_mem_drop hx),rows_max (by omega) cs hc r x (List.mem_of_mem_drop hx)⟩)
 rw [List.length_drop,rowsL_len] at h2
 rw [sumTo]
 omega
/-- what the program adds up of a cell's rows -/
theorem high_hs {cs:List RCell} (hc:∀ c ∈ cs,c.2.2≤1000) {R r k:Nat} (hR:R≤88) (hr:r < R) {x:GC} {a m:Nat} (hrx:x.row=a) (hmx:x.rows=m) (h1:1≤m) (h2:a+m=r+1):highV (hsL cs R r k) x=(rowsL cs r).sum - sumTo (rowsL cs r) a+curV cs r k:=by
 have hs:=sum_hs cs R r k (show a≤r by omega)
 have hb:=span_le hc (r:=r) (by omega) a
 have hcb:=cur_bound (by omega) hc r k
 rw [← h2] at hs
 rw [high_span hrx hmx h1 (by rw [hsL_len cs k hr];omega) (by rw [hs];omega),hs]
/-- no cell behind one that begins below ends in the row -/
theorem hs_late {cs:List RCell} {R r k:Nat} (h:∀ j,k≤j→j < cs.length→∀ c,cs[j]?=some c→r < c.1∧1≤c.2.1):hsL cs R r k=hsL cs R r cs.length:=by
 have e:curV cs r cs.length=curV cs r k:=by
  rw [curV,List.take_length,curV]
  have h2:∀ f:Int→RCell→Int,cs.foldl f 0=(cs.drop k).foldl f ((cs.take k).foldl f 0):=fun f=>by rw [← List.foldl_append,List.take_append_drop]
  rw [h2]
  refine fold_late _ _ _ (fun c hc=>?_)
  rw [rowsL_len]
  obtain ⟨i,hi,e⟩:=List.mem_iff_getElem.mp hc
  rw [List.length_drop] at hi
  refine h (k+i) (by omega) (by omega) c ?_
  rw [List.getElem?_eq_getElem (by omega),← e,List.getElem_drop]
 rw [hsL,hsL,e]
end Go.Proofs.YtcbibdhlkdcmiafGreat
namespace Go.Proofs.YtcbibdhlkdcmiafGreat
open Go.RowKit Go.BigFrame

/-- a cell of a grid, as it stands in its table -/
def cellAt (t:T) (x:GC):C:=(t.rows.getD x.row.toNat dR).cells.getD x.ins.toNat dC
set_option maxRecDepth 100000 in
set_option maxHeartbeats 2000000 in
theorem implcellOf (ac ar:Option Addr) (cc cr:Nat) (t:T) (x:GC) {C:Nat} (hx:Cel t C x) (w:World) {z:Nat} (hr:RowsAt w z (.slice ar t.rows.length cr) t.rows) :
  Calls Tryz.prog 96 #[.agg #[.slice ac t.cols.length cc,.int .i64 t.head,.int .i64 t.foot,.slice ar t.rows.length cr,.int .i64 t.gap],.agg #[.int .i64 x.row,.int .i64 x.col,.int .i64 x.rows,.int .i64 x.cols,.int .i64 x.ins]] w fun e w'=>e=.returned (.agg #[.string (cellAt t x).s,.int .i64 (cellAt t x).c,.int .i64 (cellAt t x).r,.int .i64 (cellAt t x).a1,.int .i64 (cellAt t x).b1,.int .i64 (cellAt t x).a2,.int .i64 (cellAt t x).b2,.int .i64 (cellAt t x).a3,.int .i64 (cellAt t x).b3,.int .i64 (cellAt t x).a4,.int .i64 (cellAt t x).b4])∧(cellAt t x).s.size≤maxLen∧Below w.heap.size w w':=by
 obtain ⟨rn,jn,cn,mn,e1,e2,e3,e4,h1,h2,h3,h4,h5⟩:=hx.ex
 have HTx:Hid (cellAt t x=(t.rows.getD rn dR).cells.getD jn dC):=by rw [Hid,cellAt,e1,e2,Int.toNat_natCast,Int.toNat_natCast]
 have hmx:Tryz.prog.follows .mixedOrders=true:=by kernel_rfl
 have K1:=k_alloc (Below.refl w.heap.size w) (.cells #[.slice ac t.cols.length cc,.int .i64 t.head,.int .i64 t.foot,.slice ar t.rows.length cr,.int .i64 t.gap] 26)
 have X1:=newestB w (.cells #[.slice ac t.cols.length cc,.int .i64 t.head,.int .i64 t.foot,.slice ar t.rows.length cr,.int .i64 t.gap] 26)
 have hs1:(w.alloc (.cells #[.slice ac t.cols.length cc,.int .i64 t.head,.int .i64 t.foot,.slice ar t.rows.length cr,.int .i64 t.gap] 26)).heap.size=w.heap.size+1:=by simp
 rw [e1,e2]
 clear e1 e2 e3 e4
 go_enter Tryz.func96,Tryz.ntmps96
 go_upto_region 1 with fail
 have K2:=k_alloc K1 (.cells #[.int .i64 (rn:Int),.int .i64 x.col,.int .i64 x.rows,.int .i64 x.cols,.int .i64 (jn:Int)] 50)
 have X2:=newestB (w.alloc (.cells #[.slice ac t.cols.length cc,.int .i64 t.head,.int .i64 t.foot,.slice ar t.rows.length cr,.int .i64 t.gap] 26)) (.cells #[.int .i64 (rn:Int),.int .i64 x.col,.int .i64 x.rows,.int .i64 x.cols,.int .i64 (jn:Int)] 50)
 have X1':=(Below.heap_alloc (w.alloc (.cells #[.slice ac t.cols.length cc,.int .i64 t.head,.int .i64 t.foot,.slice ar t.rows.length cr,.int .i64 t.gap] 26)) (.cells #[.int .i64 (rn:Int),.int .i64 x.col,.int .i64 x.rows,.int .i64 x.cols,.int .i64 (jn:Int)] 50) w.heap.size (by omega)).trans X1
 rw [hs1] at X2
 have hs2:((w.alloc (.cells #[.slice ac t.cols.length cc,.int .i64 t.head,.int .i64 t.foot,.slice ar t.rows.length cr,.int .i64 t.gap] 26)).alloc (.cells #[.int .i64 (rn:Int),.int .i64 x.col,.int .i64 x.rows,.int .i64 x.cols,.int .i64 (jn:Int)] 50)).heap.size=w.heap.size+2:=by simp
 generalize (w.alloc (.cells #[.slice ac t.cols.length cc,.int .i64 t.head,.int .i64 t.foot,.slice ar t.rows.length cr,.int .i64 t.gap] 26)).alloc (.cells #[.int .i64 (rn:Int),.int .i64 x.col,.int .i64 x.rows,.int .i64 x.cols,.int .i64 (jn:Int)] 50)=W2 at K2 X2 X1' hs2 ⊢
 have K3:=k_alloc K2 (.cells #[.string ⟨#[]⟩,.int .i64 0,.int .i64 0,.int .i64 0,.int .i64 0,.int .i64 0,.int .i64 0,.int .i64 0,.int .i64 0,.int .i64 0,.int .i64 0] 74)
 have X3:=newestB W2 (.cells #[.string ⟨#[]⟩,.int .i64 0,.int .i64 0,.int .i64 0,.int .i64 0,.int .i64 0,.int .i64 0,.int .i64 0,.int .i64 0,.int .i64 0,.int .i64 0] 74)
 have X1'':=(Below.heap_alloc W2 (.cells #[.string ⟨#[]⟩,.int .i64 0,.int .i64 0,.int .i64 0,.int .i64 0,.int .i64 0,.int .i64 0,.int .i64 0,.int .i64 0,.int .i64 0,.int .i64 0] 74) w.heap.size (by omega)).trans X1'
 have X2':=(Below.heap_alloc W2 (.cells #[.string ⟨#[]⟩,.int .i64 0,.int .i64 0,.int .i64 0,.int .i64 0,.int .i64 0,.int .i64 0,.int .i64 0,.int .i64 0,.int .i64 0,.int .i64 0] 74) (w.heap.size+1) (by omega)).trans X2
 rw [show W2.heap.size=w.heap.size+1+1 by omega] at X3
 generalize W2.alloc (.cells #[.string ⟨#[]⟩,.int .i64 0,.int .i64 0,.int .i64 0,.int .i64 0,.int .i64 0,.int .i64 0,.int .i64 0,.int .i64 0,.int .i64 0,.int .i64 0] 74)=W at K3 X3 X1'' X2' ⊢
 clear K1 X1 hs1 K2 X2 X1' hs2
 obtain ⟨rb,roff,rcap,re,rc1,rc2,rbl,u,hu0,_,hu⟩:=At.get (hr.kept K3) h1
 simp only [Value.slice.injEq,true_and] at re
 obtain ⟨rfl,rfl⟩:=re
 obtain ⟨qb,qoff,qcap,qe,qc1,qc2,qbl,hv,hsl⟩:=At.get hu h2
 subst qe
 obtain ⟨v0,v1,v2,v3,v4,v5,v6,v7,v8,v9,v10⟩:=hv
 have l1:w.heap.size < W.heap.size:=(Array.getElem?_eq_some_iff.1 X1'').1
 have l2:w.heap.size+1 < W.heap.size:=(Array.getElem?_eq_some_iff.1 X2').1
 have hne:=bw_some W
 have m0:=bw_cell (a:=⟨w.heap.size,3,none⟩) l1 (cellB (p:=3) X1'')
 have m1:=bw_cell (a:=⟨w.heap.size+1,0,none⟩) l2 (cellB (p:=0) X2')
 have m2:=bw_cell (a:=⟨w.heap.size+1,4,none⟩) l2 (cellB (p:=4) X2')
 have m3:=bw_cell rbl hu0
 have n0:=bw_cell qbl v0
 have n1:=bw_cell qbl v1
 have n2:=bw_cell qbl v2
 have n3:=bw_cell qbl v3
 have n4:=bw_cell qbl v4
 have n5:=bw_cell qbl v5
 have n6:=bw_cell qbl v6
 have n7:=bw_cell qbl v7
 have n8:=bw_cell qbl v8
 have n9:=bw_cell qbl v9
 have n10:=bw_cell qbl v10
 have HSZ:Hid ((cellAt t x).s.size≤maxLen):=by rw [Hid,HTx.out];exact hsl
 have HK:=Hid.intro K3
 have HX3:=Hid.intro X3
 unfold maxLen at rc2 qc2
 generalize (t.rows.getD rn dR).cells.getD jn dC=y at *
 generalize (t.rows.getD rn dR).cells.length=rl at h2 m3 qc1
 clear hu hu0 hr h3 h4 h5 hx K3 X3 X1'' X2' v0 v1 v2 v3 v4 v5 v6 v7 v8 v9 v10 hsl
 refine wp_region_last 11 hmx (by rfl) (by rfl) (by kernel_rfl) (by kernel_rfl) ?_
 simp only [List.take_succ_cons,List.take_zero]
 repeat (go_big_quiet_step (fail))
 refine wpQuiet_nil ?_
 intro W5 hw'
 obtain ⟨⟨Wx,hW5⟩,hw''⟩:=hw'
 subst hw''
 have l3:w.heap.size+1+1 < W.heap.size:=(Array.getElem?_eq_some_iff.1 HX3.out).1
 have X5:=(hW5.block _ l3).trans HX3.out
 obtain ⟨⟨c0,c1,c2,c3,c4,c5,c6,c7,c8,c9,c10⟩,f0,f1,f2,f3,f4,f5,f6,f7,f8,f9,f10⟩:=cells11 X5
 have HK5:=Hid.intro (k_trans HK.out hW5)
 clear m0 m1 m2 m3 n0 n1 n2 n3 n4 n5 n6 n7 n8 n9 n10 hne hW5 X5
 rw [if_pos (by rfl)]
 go_simp
 go_wp2
 exact bodyPost_ret (v:=.agg #[.string y.s,.int .i64 y.c,.int .i64 y.r,.int .i64 y.a1,.int .i64 y.b1,.int .i64 y.a2,.int .i64 y.b2,.int .i64 y.a3,.int .i64 y.b3,.int .i64 y.a4,.int .i64 y.b4]) (by simp [results,Tryz.results96,go_sem,c0,c1,c2,c3,c4,c5,c6,c7,c8,c9,c10]) rfl ⟨by rw [HTx.out],HSZ.out,HK5.out.trans ((st11_bk W5 (w.heap.size+1+1) (.string y.s) (.int .i64 y.c) (.int .i64 y.r) (.int .i64 y.a1) (.int .i64 y.b1) (.int .i64 y.a2) (.int .i64 y.b2) (.int .i64 y.a3) (.int .i64 y.b3) (.int .i64 y.a4) (.int .i64 y.b4)).below HK5.out.size (by omega))⟩
end Go.Proofs.YtcbibdhlkdcmiafGreat
namespace Go.Proofs.YtcbibdhlkdcmiafGreat
open Go.RowKit

theorem text_size {t:T} {x:GC} {C:Nat} (hx:Cel t C x) {w:World} {z:Nat} {v:Value} (hr:RowsAt w z v t.rows):(textOf t x).size≤maxLen:=by
 obtain ⟨rn,jn,cn,mn,e1,e2,e3,e4,h1,h2,h3,h4,h5⟩:=hx.ex
 rw [textOf,e1,e2,Int.toNat_natCast,Int.toNat_natCast]
 obtain ⟨rb,roff,rcap,re,rc1,rc2,rbl,u,hu0,_,hu⟩:=At.get hr h1
 obtain ⟨qb,qoff,qcap,qe,qc1,qc2,qbl,hv,hsl⟩:=At.get hu h2
 exact hsl
theorem field_first (s:ByteArray) (x1 x2 x3 x4 x5 x6 x7 x8 x9 x10:Value) (W:World):(Instr.field 74 (.agg #[.string s,x1,x2,x3,x4,x5,x6,x7,x8,x9,x10]) 0).run Tryz.prog W=.ok (.string s) W:=by kernel_rfl
set_option maxRecDepth 100000 in
set_option maxHeartbeats 2000000 in
theorem impltextOf (ac ar:Option Addr) (cc cr:Nat) (t:T) (x:GC) {C:Nat} (hx:Cel t C x) (w:World) {z:Nat} (hr:RowsAt w z (.slice ar t.rows.length cr) t.rows) :
  Calls Tryz.prog 56 #[.agg #[.slice ac t.cols.length cc,.int .i64 t.head,.int .i64 t.foot,.slice ar t.rows.length cr,.int .i64 t.gap],.agg #[.int .i64 x.row,.int .i64 x.col,.int .i64 x.rows,.int .i64 x.cols,.int .i64 x.ins]] w fun e w'=>e=.returned (.string (textOf t x))∧(textOf t x).size≤maxLen∧Below w.heap.size w w':=by
 have HC:=Hid.intro (implcellOf ac ar cc cr t x hx)
 have hfl:=field_first
 have K2:=k_alloc (k_alloc (Below.refl w.heap.size w) (.cells #[.slice ac t.cols.length cc,.int .i64 t.head,.int .i64 t.foot,.slice ar t.rows.length cr,.int .i64 t.gap] 26)) (.cells #[.int .i64 x.row,.int .i64 x.col,.int .i64 x.rows,.int .i64 x.cols,.int .i64 x.ins] 50)
 have HR:=Hid.intro (hr.kept K2)
 have HK:=Hid.intro K2
 clear hr hx K2
 go_enter Tryz.func56,Tryz.ntmps56
 go_wp2_with fail
 refine (HC.out _ HR.out).mono ?_
 rintro e w1 ⟨rfl,hsz,hb1⟩
 have HK1:=Hid.intro (k_trans HK.out hb1)
 clear hb1 HK HR HC
 go_wp2
 go_ret
 exact ⟨rfl,hsz,HK1.out⟩
end Go.Proofs.YtcbibdhlkdcmiafGreat
