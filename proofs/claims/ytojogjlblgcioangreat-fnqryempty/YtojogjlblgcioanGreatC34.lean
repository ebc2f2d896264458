/-
  PROVED HERE: no cell is cramped, as lists: when columns were made wide enough for all cells, each cell's columns are together, with what stands between, as wide as it needs at least; and no column was made less wide. Also: 10 more texts of the same proof.
-/
import Derived.Test.YtojogjlblgcioanGreatC33
import Derived.Test.YtojogjlblgcioanGreatC26
import Derived.Test.YtojogjlblgcioanGreatC9
import Derived.Test.YtojogjlblgcioanGreatC12
import Derived.Test.YtojogjlblgcioanGreatC24
import Derived.Test.YtojogjlblgcioanGreatC13
namespace Go.Proofs.YtojogjlblgcioanGreat
open Go.RowKit
def LeL (a b:List Int):Prop:=a.length=b.length∧∀ i,i < a.length→a.getD i 0≤b.getD i 0
theorem LeL.refl (a:List Int):LeL a a:=⟨rfl,fun _ _=>Int.le_refl _⟩
theorem LeL.trans {a b c:List Int} (h:LeL a b) (k:LeL b c):LeL a c:=⟨h.1.trans k.1,fun i hi=>Int.le_trans (h.2 i hi) (k.2 i (by rw [← h.1];exact hi))⟩
theorem LeL.sub {a b:List Int} (h:LeL a b) {c m:Nat} (hc:c+m≤a.length):LeL (subL a c m) (subL b c m):=by
 have hb:c+m≤b.length:=by rw [← h.1];exact hc
 refine ⟨by rw [subL_len hc,subL_len hb],fun i hi=>?_⟩
 rw [subL_len hc] at hi
 rw [subL_get hc hi,subL_get hb hi]
 exact h.2 _ (by omega)
theorem sum_zip:∀ (a b:List Int),a.length=b.length→(List.zipWith (·+·) a b).sum=a.sum+b.sum
 | [],[],_=>by simp
 | [],_ :: _,h=>absurd h (by simp)
 | _ :: _,[],h=>absurd h (by simp)
 | x :: a,y :: b,h=>by
  rw [List.zipWith_cons_cons,List.sum_cons,List.sum_cons,List.sum_cons,sum_zip a b (by simpa using h)]
  omega
def hasV (l:List Int) (gap:Int) (x:GC):Int:=(subL l x.col.toNat x.cols.toNat).sum+gap * (x.cols - 1)
def fixTo (ps:List (Int × Int)) (l:List Int):Nat→List Int
 | 0=>l
 | k+1=>if (sd ps k).1=1 then (fixTo ps l k).set k (max ((fixTo ps l k).getD k 0) (sd ps k).2) else fixTo ps l k
theorem fixTo_len (ps:List (Int × Int)) (l:List Int):∀ k,(fixTo ps l k).length=l.length
 | 0=>rfl
 | k+1=>by rw [fixTo];split;rw [List.length_set];exact fixTo_len ps l k;exact fixTo_len ps l k
theorem fixTo_out (ps:List (Int × Int)) (l:List Int) {i:Nat}:∀ k,k≤i→(fixTo ps l k).getD i 0=l.getD i 0
 | 0,_=>rfl
 | k+1,h=>by
  rw [fixTo]
  split
  ·rw [← fixTo_out ps l (i:=i) k (by omega)]
   simp only [List.getD,List.getElem?_set_ne (show k ≠ i by omega)]
  ·exact fixTo_out ps l k (by omega)
def fixV (ps:List (Int × Int)) (k:Nat) (x:Int):Int:=if (sd ps k).1=1 then max x (sd ps k).2 else x
theorem fixTo_in (ps:List (Int × Int)) (l:List Int) {i:Nat} (hi:i < l.length):∀ k,i < k→(fixTo ps l k).getD i 0=fixV ps i (l.getD i 0)
 | k+1,h=>by
  rw [fixTo]
  by_cases e:i=k
  ·subst e
   rw [fixTo_out ps l i (Nat.le_refl _)]
   have hl:i < (fixTo ps l i).length:=by rw [fixTo_len];exact hi
   unfold fixV
   split
   ·simp [List.getD,hl]
   ·exact fixTo_out ps l i (Nat.le_refl _)
  ·rw [← fixTo_in ps l hi k (by omega)]
   split
   ·simp only [List.getD,List.getElem?_set_ne (show k ≠ i by omega)]
   ·rfl
def leastP (t:T) (x:GC):Int:=(leastOf (wordsW (textOf t x)):Nat)
def colN (t:T):Nat:=(gOf t).cols.toNat
def needL (t:T) (p:GC→Int):List Int:=needTo p t.gap (gOf t).cells (zeroL (colN t)) 4
def leastL (t:T):List Int:=fixTo t.cols (needL t (leastP t)) (colN t)
theorem needL_len (t:T) (p:GC→Int):(needL t p).length=colN t:=by unfold needL;rw [needTo_len];simp [zeroL]
theorem leastL_len (t:T):(leastL t).length=colN t:=by unfold leastL;rw [fixTo_len,needL_len]
theorem colN_of {t:T} {C:Nat} (h:(gOf t).cols=C):colN t=C:=by unfold colN;rw [h];exact Int.toNat_natCast C
theorem needL_up {t:T} (hD:Drawn t) {p:GC→Int} (hp:∀ x,p x≤30):UpB (needL t p) 4800:=by
 obtain ⟨h40,C,hgc,hC,hcel⟩:=cel_of hD
 unfold needL
 rw [colN_of hgc]
 exact need_up hcel h40 (by simp [zeroL]) hp (zero_up _) 4 (by omega)
theorem sd_small {t:T} {k:Nat} (hk:k < colN t):(sd t.cols k).1=1→0≤(sd t.cols k).2∧(sd t.cols k).2≤60:=by
 intro h1
 cases h:tblB t with
 | false=>unfold colN at hk;rw [gOf_no h] at hk;exact absurd hk (Nat.not_lt_zero _)
 | true =>
  simp only [tblB,colsB,Bool.and_eq_true,List.all_eq_true] at h
  by_cases hl:k < t.cols.length
  ·rw [sd_yes hl] at h1 ⊢
   have:=h.2.2.2.1.2 (t.cols.getD k (0,0)) (by rw [show t.cols.getD k (0,0)=t.cols[k] by simp [List.getD,hl]];exact List.getElem_mem hl)
   simp only [colB,decide_eq_true_eq] at this
   omega
  ·rw [sd_no (inB_false (by omega))] at h1
   simp at h1
theorem leastL_get {t:T} {k:Nat} (hk:k < colN t):(leastL t).getD k 0=fixV t.cols k ((needL t (leastP t)).getD k 0):=by
 unfold leastL
 exact fixTo_in _ _ (by rw [needL_len];exact hk) _ hk
theorem leastP_le (t:T) (x:GC):0≤leastP t x∧leastP t x≤30:=by
 unfold leastP
 have:=leastOf_le (wordsW (textOf t x))
 omega
theorem leastL_up {t:T} (hD:Drawn t):UpB (leastL t) 5000:=by
 intro i hi
 rw [leastL_len] at hi
 rw [leastL_get hi]
 have h1:=needL_up hD (fun x=>(leastP_le t x).2) i (by rw [needL_len];exact hi)
 have h2:=sd_small hi
 unfold fixV
 split
 ·have:=h2 (by assumption);omega
 ·omega
def maxTo (a b:List Int):Nat→List Int
 | 0=>a
 | k+1=>(maxTo a b k).set k (max (a.getD k 0) (b.getD k 0))
theorem maxTo_len (a b:List Int):∀ k,(maxTo a b k).length=a.length
 | 0=>rfl
 | k+1=>by rw [maxTo,List.length_set];exact maxTo_len a b k
theorem maxTo_out (a b:List Int) {i:Nat}:∀ k,k≤i→(maxTo a b k).getD i 0=a.getD i 0
 | 0,_=>rfl
 | k+1,h=>by
  rw [maxTo,← maxTo_out a b (i:=i) k (by omega)]
  simp only [List.getD,List.getElem?_set_ne (show k ≠ i by omega)]
theorem maxTo_in (a b:List Int) {i:Nat} (hi:i < a.length):∀ k,i < k→(maxTo a b k).getD i 0=max (a.getD i 0) (b.getD i 0)
 | k+1,h=>by
  rw [maxTo]
  by_cases e:i=k
  ·subst e
   have hl:i < (maxTo a b i).length:=by rw [maxTo_len];exact hi
   simp only [List.getD,List.getElem?_set_self hl,Option.getD_some]
  ·rw [← maxTo_in a b hi k (by omega)]
   simp only [List.getD,List.getElem?_set_ne (show k ≠ i by omega)]
def wishP (t:T) (x:GC):Int:=(wishOf (textOf t x):Nat)
theorem wishP_le (t:T) (x:GC):0≤wishP t x∧wishP t x≤30:=by
 unfold wishP
 have:=wishOf_le (textOf t x)
 omega
def wishL (t:T):List Int:=maxTo (needL t (wishP t)) (leastL t) (colN t)
theorem wishL_len (t:T):(wishL t).length=colN t:=by unfold wishL;rw [maxTo_len,needL_len]
theorem wishL_get {t:T} {k:Nat} (hk:k < colN t):(wishL t).getD k 0=max ((needL t (wishP t)).getD k 0) ((leastL t).getD k 0):=by
 unfold wishL
 exact maxTo_in _ _ (by rw [needL_len];exact hk) _ hk
theorem wishL_up {t:T} (hD:Drawn t):UpB (wishL t) 5000:=by
 intro i hi
 rw [wishL_len] at hi
 rw [wishL_get hi]
 have h1:=needL_up hD (fun x=>(wishP_le t x).2) i (by rw [needL_len];exact hi)
 have h2:=leastL_up hD i (by rw [leastL_len];exact hi)
 omega
def kindP (t:T) (q:Int) (k:Nat):Bool:=decide ((sd t.cols k).1=q)
def restV (t:T) (width:Int):Int:=width - ((leastL t).sum+t.gap * ((colN t:Int) - 1))
def want1 (t:T) (width:Int) (l:List Int):List Int:=(List.range l.length).map (fun k=>if kindP t 2 k=true then max 0 (width * (sd t.cols k).2 / 100 - l.getD k 0) else 0)
def want2 (t:T) (l:List Int):List Int:=(List.range l.length).map (fun k=>if kindP t 0 k=true then max 0 ((wishL t).getD k 0 - l.getD k 0) else 0)
def out1 (t:T) (width:Int):List Int:=addL (leastL t) (upToL (restV t width) (want1 t width (leastL t)))
def left1 (t:T) (width:Int):Int:=upToN (restV t width) (want1 t width (leastL t))
def out2 (t:T) (width:Int):List Int:=addL (out1 t width) (upToL (left1 t width) (want2 t (out1 t width)))
def left2 (t:T) (width:Int):Int:=upToN (left1 t width) (want2 t (out1 t width))
def widL (t:T) (width:Int):List Int :=
 if restV t width≤0 then leastL t
 else if 0 < (selN (kindP t 0) (colN t)).length then addL (out2 t width) (shareL (left2 t width) (oneL (kindP t 0) (colN t)))
 else if 0 < (selN (kindP t 2) (colN t)).length then addL (out2 t width) (shareL (left2 t width) (oneL (kindP t 2) (colN t)))
 else out2 t width
theorem addL_len {a b:List Int} (h:b.length=a.length):(addL a b).length=a.length:=by unfold addL;rw [List.length_zipWith,h];omega
theorem addL_sum {a b:List Int} (h:b.length=a.length):(addL a b).sum=a.sum+b.sum:=sum_zip a b h.symm
theorem addL_get {a b:List Int} (h:b.length=a.length) {i:Nat} (hi:i < a.length):(addL a b).getD i 0=a.getD i 0+b.getD i 0:=by
 have hb:i < b.length:=by omega
 have hz:i < (List.zipWith (·+·) a b).length:=by rw [List.length_zipWith];omega
 unfold addL
 simp only [List.getD,List.getElem?_eq_getElem hi,List.getElem?_eq_getElem hb,List.getElem?_eq_getElem hz,Option.getD_some,List.getElem_zipWith]
theorem want1_len (t:T) (width:Int) (l:List Int):(want1 t width l).length=l.length:=by simp [want1]
theorem want2_len (t:T) (l:List Int):(want2 t l).length=l.length:=by simp [want2]
theorem want1_get {t:T} {width:Int} {l:List Int} {k:Nat} (h:k < l.length):(want1 t width l).getD k 0=if kindP t 2 k=true then max 0 (width * (sd t.cols k).2 / 100 - l.getD k 0) else 0:=by simp [want1,List.getD,h]
theorem want2_get {t:T} {l:List Int} {k:Nat} (h:k < l.length):(want2 t l).getD k 0=if kindP t 0 k=true then max 0 ((wishL t).getD k 0 - l.getD k 0) else 0:=by simp [want2,List.getD,h]
theorem ok_of {t:Int} {l:List Int} (ht:0≤t∧t≤100000) (hl:l.length≤100) (h:∀ i,i < l.length→0≤l.getD i 0∧l.getD i 0≤100000):shrOkB t l=true:=by
 simp only [shrOkB,Bool.and_eq_true,decide_eq_true_eq,List.all_eq_true]
 refine ⟨⟨by simp only [wtB,decide_eq_true_eq];exact ht,hl⟩,fun x hx=>?_⟩
 obtain ⟨i,hi,rfl⟩:=List.mem_iff_getElem.1 hx
 have:=h i hi
 rw [show l.getD i 0=l[i] by simp [List.getD,hi]] at this
 simp only [wtB,decide_eq_true_eq]
 exact this
theorem upTo_total {t:Int} {l:List Int} (hok:shrOkB t l=true):(upToL t l).length=l.length∧(upToL t l).sum+upToN t l=t∧0≤upToN t l∧upToN t l≤t∧∀ i,i < l.length→0≤(upToL t l).getD i 0∧(upToL t l).getD i 0≤l.getD i 0:=by
 obtain ⟨ht,hlen,hw⟩:=shrOk_parts hok
 have hg:∀ i,i < l.length→0≤l.getD i 0:=fun i hi=>(wt_get hw hi).1
 by_cases hs:l.sum≤t
 ·rw [(upTo_all hok hs).1,(upTo_all hok hs).2]
  have h0:0≤l.sum:=(sum_bound hw).1
  exact ⟨rfl,by omega,by omega,by omega,fun i hi=>⟨hg i hi,Int.le_refl _⟩⟩
 ·rw [(upTo_share hok hs).1,(upTo_share hok hs).2]
  have hpos:0 < l.length:=by
   cases l with
   | nil=>simp at hs;omega
   | cons _ _=>simp
  exact ⟨shareL_len hok,by rw [share_sum hok hpos];omega,Int.le_refl _,ht.1,fun i hi=>share_upto hok (by omega) hi⟩
theorem sd_kind {t:T} {k:Nat} (hk:k < colN t):((sd t.cols k).1=0)∨((sd t.cols k).1=1∧0≤(sd t.cols k).2∧(sd t.cols k).2≤60)∨((sd t.cols k).1=2∧1≤(sd t.cols k).2∧(sd t.cols k).2≤100):=by
 cases h:tblB t with
 | false=>unfold colN at hk;rw [gOf_no h] at hk;exact absurd hk (Nat.not_lt_zero _)
 | true =>
  simp only [tblB,colsB,Bool.and_eq_true,List.all_eq_true] at h
  by_cases hl:k < t.cols.length
  ·rw [sd_yes hl]
   have:=h.2.2.2.1.2 (t.cols.getD k (0,0)) (by rw [show t.cols.getD k (0,0)=t.cols[k] by simp [List.getD,hl]];exact List.getElem_mem hl)
   simp only [colB,decide_eq_true_eq] at this
   omega
  ·rw [sd_no (inB_false (by omega))]
   exact .inl rfl
theorem part_small {width n:Int} (hw:0≤width∧width≤300) (hn:1≤n∧n≤100):0≤width * n / 100∧width * n / 100≤300:=by
 have h1:0≤width * n:=Int.mul_nonneg hw.1 (by omega)
 have h2:width * n≤300 * 100:=Int.mul_le_mul hw.2 hn.2 (by omega) (by omega)
 omega
theorem wid_steps {t:T} (hD:Drawn t) (hok:tblB t=true) {width:Int} (hw:0≤width∧width≤300) (hr:0 < restV t width) :
  shrOkB (restV t width) (want1 t width (leastL t))=true∧shrOkB (left1 t width) (want2 t (out1 t width))=true∧(0≤left2 t width∧left2 t width≤300)∧(out1 t width).length=colN t∧(out2 t width).length=colN t∧(out2 t width).sum+left2 t width=(leastL t).sum+restV t width ∧
  (∀ k,k < colN t→(leastL t).getD k 0≤(out1 t width).getD k 0∧(out1 t width).getD k 0≤(out2 t width).getD k 0∧(kindP t 2 k=false→(out1 t width).getD k 0=(leastL t).getD k 0)∧(kindP t 0 k=false→(out2 t width).getD k 0=(out1 t width).getD k 0)):=by
 obtain ⟨_,C,hgc,hC,hcel⟩:=cel_of hD
 have hCN:=colN_of hgc
 have hlen:=leastL_len t
 have hup:=leastL_up hD
 have hsb:=sum_upB (l:=leastL t) (B:=5000) (fun x hx=>hup.mem hx)
 have hC1:1≤colN t:=by
  have h1:(gOf t).cols=colsOf (max 1 (t.cols.length:Int)) (gridOf t):=by rw [gOf_ok hok]
  have h2:=colsOf_ge (gridOf t) (max 1 (t.cols.length:Int))
  unfold colN
  omega
 have hg:0≤t.gap∧t.gap≤3:=by
  simp only [tblB,inB,Bool.and_eq_true,decide_eq_true_eq] at hok
  exact hok.2.2.1
 have hgap:0≤t.gap * ((colN t:Int) - 1):=Int.mul_nonneg hg.1 (by omega)
 have hr300:restV t width≤300:=by unfold restV;omega
 have ok1:shrOkB (restV t width) (want1 t width (leastL t))=true:=ok_of (by omega) (by rw [want1_len,hlen];omega) (fun i hi=>by
  rw [want1_len] at hi
  rw [want1_get hi]
  have hu:=hup i hi
  split
  ·rename_i hp
   have hk:=sd_kind (t:=t) (k:=i) (by rw [← hlen];exact hi)
   simp only [kindP,decide_eq_true_eq] at hp
   have:=part_small hw (n:=(sd t.cols i).2) (by omega)
   omega
  ·omega)
 obtain ⟨l1,s1,n1,m1,e1⟩:=upTo_total ok1
 rw [want1_len] at l1 e1
 have ho1:(out1 t width).length=colN t:=by unfold out1;rw [addL_len l1,hlen]
 have g1:∀ k,k < colN t→(out1 t width).getD k 0=(leastL t).getD k 0+(upToL (restV t width) (want1 t width (leastL t))).getD k 0:=fun k hk=>by unfold out1;exact addL_get l1 (by rw [hlen];exact hk)
 have hl1:0≤left1 t width∧left1 t width≤300:=by unfold left1;omega
 have ok2:shrOkB (left1 t width) (want2 t (out1 t width))=true:=ok_of (by omega) (by rw [want2_len,ho1];omega) (fun i hi=>by
  rw [want2_len] at hi
  rw [want2_get hi]
  have hi':i < colN t:=by rw [← ho1];exact hi
  have hwu:=wishL_up hD i (by rw [wishL_len];exact hi')
  have h3:=g1 i hi'
  have h4:=hup i (by rw [hlen];exact hi')
  have h5:=e1 i (by rw [hlen];exact hi')
  split <;> omega)
 obtain ⟨l2,s2,n2,m2,e2⟩:=upTo_total ok2
 rw [want2_len] at l2 e2
 have ho2:(out2 t width).length=colN t:=by unfold out2;rw [addL_len l2,ho1]
 have g2:∀ k,k < colN t→(out2 t width).getD k 0=(out1 t width).getD k 0+(upToL (left1 t width) (want2 t (out1 t width))).getD k 0:=fun k hk=>by unfold out2;exact addL_get l2 (by rw [ho1];exact hk)
 refine ⟨ok1,ok2,by unfold left2;omega,ho1,ho2,?_,fun k hk=>?_⟩
 ·have a1:(out1 t width).sum=(leastL t).sum+(upToL (restV t width) (want1 t width (leastL t))).sum:=by unfold out1;exact addL_sum l1
  have a2:(out2 t width).sum=(out1 t width).sum+(upToL (left1 t width) (want2 t (out1 t width))).sum:=by unfold out2;exact addL_sum l2
  have a3:left1 t width=upToN (restV t width) (want1 t width (leastL t)):=rfl
  have a4:left2 t width=upToN (left1 t width) (want2 t (out1 t width)):=rfl
  rw [a2,a1,a4]
  omega
 ·have b1:=e1 k (by rw [hlen];exact hk)
  have b2:=e2 k (by rw [ho1];exact hk)
  rw [want1_get (by rw [hlen];exact hk)] at b1
  rw [want2_get (by rw [ho1];exact hk)] at b2
  have c1:=g1 k hk
  have c2:=g2 k hk
  refine ⟨by omega,by omega,fun h=>?_,fun h=>?_⟩
  ·rw [if_neg (by rw [h];simp)] at b1
   omega
  ·rw [if_neg (by rw [h];simp)] at b2
   omega
theorem oneL_sum {P:Nat→Bool} {n:Nat}:(oneL P n).sum=((selN P n).length:Int):=by
 have hz:∀ i,i < (oneL P n).length→P i=false→(oneL P n).getD i 0=0:=fun i hi hP=>by
  rw [oneL_len] at hi
  rw [oneL_get hi,if_neg (by rw [hP];simp)]
 have:=selL_sum (l:=oneL P n) (P:=P) (oneL P n).length (Nat.le_refl _) hz
 rw [sumTo_all,oneL_len,sel_one,sum_ones] at this
 exact this.symm
theorem selN_none {P:Nat→Bool} {n:Nat} (h:¬ 0 < (selN P n).length) {k:Nat} (hk:k < n):P k=false:=by
 cases hP:P k with
 | false=>rfl
 | true =>
  have:k ∈ selN P n:=by unfold selN;rw [List.mem_filter];exact ⟨List.mem_range.2 hk,hP⟩
  exact absurd (List.length_pos_of_mem this) h
theorem last_share {P:Nat→Bool} {n:Nat} {t:Int} {l:List Int} (hl:l.length=n) (hn:n≤100) (ht:0≤t∧t≤300) (h0:0 < (selN P n).length) :
  (addL l (shareL t (oneL P n))).length=n∧(addL l (shareL t (oneL P n))).sum=l.sum+t∧∀ k,k < n→l.getD k 0≤(addL l (shareL t (oneL P n))).getD k 0∧(P k=false→(addL l (shareL t (oneL P n))).getD k 0=l.getD k 0):=by
 have hok:=oneL_ok P (n:=n) (t:=t) (by omega) hn
 have hs:=shareL_len hok
 rw [oneL_len] at hs
 have hpos:0 < n:=by
  have:=(selN_get h0).1
  omega
 refine ⟨by rw [addL_len (by rw [hs,hl]),hl],by rw [addL_sum (by rw [hs,hl]),share_sum hok (by rw [oneL_len];exact hpos)],fun k hk=>?_⟩
 rw [addL_get (by rw [hs,hl]) (by rw [hl];exact hk)]
 have h1:=shareL_small (t:=t) (l:=oneL P n) k (by rw [hs];exact hk)
 refine ⟨by omega,fun hP=>?_⟩
 rw [share_zero hok (by rw [oneL_sum];omega) (by rw [oneL_len];exact hk) (by rw [oneL_get hk,if_neg (by rw [hP];simp)])]
 omega
def allFix (t:T):Bool:=(List.range (colN t)).all (fun k=>kindP t 1 k)
theorem wid_facts {t:T} (hD:Drawn t) (hok:tblB t=true) {width:Int} (hw:0≤width∧width≤300) :
  (widL t width).length=colN t∧(widL t width).sum+t.gap * ((colN t:Int) - 1)=(if width < (leastL t).sum+t.gap * ((colN t:Int) - 1)∨allFix t=true then (leastL t).sum+t.gap * ((colN t:Int) - 1) else width) ∧
  ∀ k,k < colN t→(leastL t).getD k 0≤(widL t width).getD k 0∧(kindP t 1 k=true→(widL t width).getD k 0=(leastL t).getD k 0):=by
 obtain ⟨_,C,hgc,hC,hcel⟩:=cel_of hD
 have hCN:=colN_of hgc
 have hk1:∀ k,kindP t 1 k=true→kindP t 0 k=false∧kindP t 2 k=false:=fun k h=>by
  simp only [kindP,decide_eq_true_eq] at h
  simp [kindP,h]
 by_cases hr:restV t width≤0
 ·have e:widL t width=leastL t:=by unfold widL;rw [if_pos hr]
  rw [e]
  refine ⟨leastL_len t,?_,fun k _=>⟨Int.le_refl _,fun _=>rfl⟩⟩
  unfold restV at hr
  split
  ·rfl
  ·rename_i hn
   have:¬ width < (leastL t).sum+t.gap * ((colN t:Int) - 1):=fun h=>hn (.inl h)
   omega
 ·obtain ⟨_,_,hl2,_,ho2,hsum,hk⟩:=wid_steps hD hok hw (by omega)
  have hrr:restV t width=width - ((leastL t).sum+t.gap * ((colN t:Int) - 1)):=rfl
  have hnl:¬ width < (leastL t).sum+t.gap * ((colN t:Int) - 1):=by omega
  by_cases h0:0 < (selN (kindP t 0) (colN t)).length
  ·have e:widL t width=addL (out2 t width) (shareL (left2 t width) (oneL (kindP t 0) (colN t))):=by unfold widL;rw [if_neg hr,if_pos h0]
   obtain ⟨a1,a2,a3⟩:=last_share ho2 (by omega) hl2 h0
   have hnf:¬ allFix t=true:=fun h=>by
    have hg:=selN_get h0
    have:=List.all_eq_true.1 h _ (List.mem_range.2 hg.1)
    have:=(hk1 _ this).1
    rw [hg.2] at this
    cases this
   rw [e]
   refine ⟨a1,?_,fun k hkk=>?_⟩
   ·rw [if_neg (by rintro (h | h);exact hnl h;exact hnf h),a2]
    omega
   ·have b1:=a3 k hkk
    have b2:=hk k hkk
    refine ⟨by omega,fun h=>?_⟩
    have c:=hk1 k h
    rw [b1.2 c.1,b2.2.2.2 c.1,b2.2.2.1 c.2]
  ·by_cases h2:0 < (selN (kindP t 2) (colN t)).length
   ·have e:widL t width=addL (out2 t width) (shareL (left2 t width) (oneL (kindP t 2) (colN t))):=by unfold widL;rw [if_neg hr,if_neg h0,if_pos h2]
    obtain ⟨a1,a2,a3⟩:=last_share ho2 (by omega) hl2 h2
    have hnf:¬ allFix t=true:=fun h=>by
     have hg:=selN_get h2
     have:=List.all_eq_true.1 h _ (List.mem_range.2 hg.1)
     have:=(hk1 _ this).2
     rw [hg.2] at this
     cases this
    rw [e]
    refine ⟨a1,?_,fun k hkk=>?_⟩
    ·rw [if_neg (by rintro (h | h);exact hnl h;exact hnf h),a2]
     omega
    ·have b1:=a3 k hkk
     have b2:=hk k hkk
     refine ⟨by omega,fun h=>?_⟩
     have c:=hk1 k h
     rw [b1.2 c.2,b2.2.2.2 c.1,b2.2.2.1 c.2]
   ·have e:widL t width=out2 t width:=by unfold widL;rw [if_neg hr,if_neg h0,if_neg h2]
    have hfx:allFix t=true:=List.all_eq_true.2 (fun k hkr=>by
     have hkk:=List.mem_range.1 hkr
     have n0:=selN_none h0 hkk
     have n2:=selN_none h2 hkk
     have:=sd_kind hkk
     simp only [kindP,decide_eq_false_iff_not] at n0 n2
     simp only [kindP,decide_eq_true_eq]
     omega)
    have heq:out2 t width=leastL t:=by
     apply List.ext_getElem (by rw [ho2,leastL_len])
     intro i h1 h3
     have hi:i < colN t:=by rw [ho2] at h1;exact h1
     have b:=hk i hi
     have:=(b.2.2.2 (selN_none h0 hi)).trans (b.2.2.1 (selN_none h2 hi))
     simpa [List.getD,h1,h3] using this
    rw [e,heq]
    refine ⟨leastL_len t,by rw [if_pos (.inr hfx)],fun k _=>⟨Int.le_refl _,fun _=>rfl⟩⟩
def widT (t:T) (width:Int):List Int:=if (tblB t && inB width 0 300)=true then widL t width else []
def lnsOf (t:T) (l:List Int) (x:GC):List ByteArray:=lnOut (lnSt (cellV l t.gap x) (wordsW (textOf t x)))
def linesL (t:T) (l:List Int) (gs:List GC):List (List ByteArray):=gs.map (lnsOf t l)
def linesT (t:T) (width:Int):List (List ByteArray):=if (tblB t && inB width 0 300)=true then linesL t (widL t width) (gOf t).cells else []
theorem cellV_i64 (l:List Int) (gap:Int) (x:GC):-9223372036854775808≤cellV l gap x∧cellV l gap x≤9223372036854775807:=by
 unfold cellV acrV
 split
 ·omega
 ·exact W_bounds _
theorem linesL_len (t:T) (l:List Int) (gs:List GC):(linesL t l gs).length=gs.length:=by simp [linesL]
theorem linesL_get (t:T) (l:List Int) {gs:List GC} {k:Nat} (h:k < gs.length):(linesL t l gs).getD k []=lnsOf t l (gs.getD k dG):=by simp [linesL,List.getD,h]
theorem linesL_next (t:T) (l:List Int) {gs:List GC} {k:Nat} (h:k < gs.length):(linesL t l gs).take (k+1)=(linesL t l gs).take k ++ [lnsOf t l (gs.getD k dG)]:=by
 rw [List.take_succ_eq_append_getElem (by rw [linesL_len];exact h)]
 simp [linesL,List.getD,h]
theorem lnsOf_len (t:T) (l:List Int) (x:GC):(lnsOf t l x).length≤31:=by
 have h1:=(out_bound (cellV l t.gap x) (wordsW (textOf t x))).1
 have h2:=wordsW_len (textOf t x)
 unfold lnsOf
 omega
theorem lnsOf_size (t:T) (l:List Int) (x:GC):∀ y ∈ lnsOf t l x,y.size≤maxLen:=by
 refine line_le (n:=maxLen) ?_ _ (fun y _=>?_)
 ·have:=(cellV_i64 l t.gap x).2
  unfold maxLen
  omega
 ·have:=y.2.2
  unfold maxLen
  omega
theorem linesL_size (t:T) (l:List Int) (gs:List GC):∀ k ∈ linesL t l gs,∀ y ∈ k,y.size≤maxLen:=by
 intro k hk y hy
 obtain ⟨x,_,rfl⟩:=List.mem_map.1 hk
 exact lnsOf_size t l x y hy
def rowsOfT (t:T) (l:List Int):List Int:=rowsL (rcs (gOf t).cells (linesL t l (gOf t).cells)) t.rows.length
def rowsT (t:T) (width:Int):List Int:=if (tblB t && inB width 0 300)=true then rowsOfT t (widL t width) else []
theorem gRows {t:T} (hok:tblB t=true):(gOf t).rows=(t.rows.length:Nat):=by rw [gOf_ok hok]
theorem gCell {t:T} (hD:Drawn t) (hok:tblB t=true):∀ k,k < (gOf t).cells.length→∃ a m:Nat,((gOf t).cells.getD k dG).row=a∧((gOf t).cells.getD k dG).rows=m∧1≤m∧a+m≤t.rows.length:=by
 intro k hk
 have hl:=low_of hok hD
 rw [gOf_ok hok] at hk ⊢
 have hs:=stands_of hl (getD_mem' (d:=dG) (show k < (gridOf t).length from hk))
 unfold Stands at hs
 exact ⟨((gridOf t).getD k dG).row.toNat,((gridOf t).getD k dG).rows.toNat,by show ((gridOf t).getD k dG).row=_;omega,by show ((gridOf t).getD k dG).rows=_;omega,by omega,by omega⟩
theorem gMono {t:T} (hD:Drawn t) (hok:tblB t=true) (j:Nat):∀ k,j≤k→k < (gOf t).cells.length→((gOf t).cells.getD j dG).row≤((gOf t).cells.getD k dG).row
 | 0,h,_=>by
  obtain rfl:j=0:=by omega
  exact Int.le_refl _
 | k+1,h,hk=>by
  rcases Nat.lt_or_ge k j with h1 | h1
  ·obtain rfl:j=k+1:=by omega
   exact Int.le_refl _
  ·have ih:=gMono hD hok j k h1 (by omega)
   have hl:=low_of hok hD
   have hk':k+1 < (gridOf t).length:=by rw [gOf_ok hok] at hk;exact hk
   have ha:=(laid_of hl hk').after (by omega)
   rw [gOf_ok hok] at ih ⊢
   have e1:(⟨(t.rows.length:Int),colsOf (max 1 (t.cols.length:Int)) (gridOf t),gridOf t⟩:G).cells=gridOf t:=rfl
   rw [e1] at ih ⊢
   have e2:k+1 - 1=k:=by omega
   rw [e2] at ha
   omega
theorem gLen {t:T} (hD:Drawn t):(gOf t).cells.length≤40:=(cel_of hD).1
theorem tRows {t:T} (hD:Drawn t) (hok:tblB t=true):t.rows.length≤8:=(low_of hok hD).rows
theorem lnAll (t:T) (l:List Int) (gs:List GC):∀ k,k < gs.length→((linesL t l gs).getD k []).length≤1000:=fun k hk=>by
 rw [linesL_get t l hk]
 have:=lnsOf_len t l (gs.getD k dG)
 omega
theorem rc_le (t:T) (l:List Int) (gs:List GC):∀ c ∈ rcs gs (linesL t l gs),c.2.2≤1000:=rcs_all (linesL_len t l gs) (fun k hk=>by have:=lnAll t l gs k hk;show (((linesL t l gs).getD k []).length:Int)≤1000;omega)
theorem high_span {l:List Int} {x:GC} {a m:Nat} (hr:x.row=a) (hm:x.rows=m) (h1:1≤m) (h2:a+m≤l.length) (hb:-9223372036854775808≤sumTo l (a+m) - sumTo l a∧sumTo l (a+m) - sumTo l a≤9223372036854775807):highV l x=sumTo l (a+m) - sumTo l a:=by
 obtain ⟨e1,e2⟩:=own_span (l:=l) (x:=hgtG x) (c:=a) (m:=m) hr hm l.length (Nat.le_refl _)
 have e3:min l.length (a+m)=a+m:=by omega
 have e4:min l.length a=a:=by omega
 rw [e3,e4] at e2
 unfold highV cellV
 rw [acrV_cons (by rw [e1];omega),e2,Int.zero_mul,Int.add_zero,W_small hb]
theorem sum_hs (cs:List RCell) (R r k:Nat) {a:Nat} (ha:a≤r):sumTo (hsL cs R r k) (r+1) - sumTo (hsL cs R r k) a=(rowsL cs r).sum - sumTo (rowsL cs r) a+curV cs r k:=by
 have h1:sumTo (hsL cs R r k) a=sumTo (rowsL cs r) a:=by
  rw [sumTo,sumTo,hsL,List.take_append_of_le_length (by rw [rowsL_len];exact ha)]
 have h2:sumTo (hsL cs R r k) (r+1)=(rowsL cs r).sum+curV cs r k:=by
  rw [sumTo,hsL,List.take_append,rowsL_len,show r+1 - r=1 by omega,List.take_of_length_le (by rw [rowsL_len];omega)]
  simp
 rw [h1,h2]
 omega
theorem span_le {cs:List RCell} (hc:∀ c ∈ cs,c.2.2≤1000) {r:Nat} (hr:r≤88) (a:Nat):0≤(rowsL cs r).sum - sumTo (rowsL cs r) a∧(rowsL cs r).sum - sumTo (rowsL cs r) a≤88000:=by
 refine ⟨span_nn (rows_nn cs r) a,?_⟩
 have h1:(rowsL cs r).sum=((rowsL cs r).take a).sum+((rowsL cs r).drop a).sum:=by rw [← List.sum_append,List.take_append_drop]
 have h2:=sum_upM (l:=(rowsL cs r).drop a) (fun x hx=>⟨rows_nn cs r x (List.mem_of_mem_drop hx),rows_max (by omega) cs hc r x (List.mem_of_mem_drop hx)⟩)
 rw [List.length_drop,rowsL_len] at h2
 rw [sumTo]
 omega
theorem high_hs {cs:List RCell} (hc:∀ c ∈ cs,c.2.2≤1000) {R r k:Nat} (hR:R≤88) (hr:r < R) {x:GC} {a m:Nat} (hrx:x.row=a) (hmx:x.rows=m) (h1:1≤m) (h2:a+m=r+1):highV (hsL cs R r k) x=(rowsL cs r).sum - sumTo (rowsL cs r) a+curV cs r k:=by
 have hs:=sum_hs cs R r k (show a≤r by omega)
 have hb:=span_le hc (r:=r) (by omega) a
 have hcb:=cur_bound (by omega) hc r k
 rw [← h2] at hs
 rw [high_span hrx hmx h1 (by rw [hsL_len cs k hr];omega) (by rw [hs];omega),hs]
theorem hs_late {cs:List RCell} {R r k:Nat} (h:∀ j,k≤j→j < cs.length→∀ c,cs[j]?=some c→r < c.1∧1≤c.2.1):hsL cs R r k=hsL cs R r cs.length:=by
 have e:curV cs r cs.length=curV cs r k:=by
  rw [curV,List.take_length,curV]
  have h2:∀ f:Int→RCell→Int,cs.foldl f 0=(cs.drop k).foldl f ((cs.take k).foldl f 0):=fun f=>by rw [← List.foldl_append,List.take_append_drop]
  rw [h2]
  refine fold_late _ _ _ (fun c hc=>?_)
  rw [rowsL_len]
  obtain ⟨i,hi,e⟩:=List.mem_iff_getElem.mp hc
  rw [List.length_drop] at hi
  refine h (k+i) (by omega) (by omega) c ?_
  rw [List.getElem?_eq_getElem (by omega),← e,List.getElem_drop]
 rw [hsL,hsL,e]
theorem sumTo_small {l:List Int} (h:∀ x ∈ l,0≤x∧x≤1000) (k:Nat):0≤sumTo l k∧sumTo l k≤1000 * (l.length:Int):=by
 have h1:=sum_nn (l:=l.take k) (fun x hx=>(h x (List.mem_of_mem_take hx)).1)
 have h2:=sum_upM (l:=l.take k) (fun x hx=>h x (List.mem_of_mem_take hx))
 rw [List.length_take] at h2
 rw [sumTo]
 omega
theorem rows_small {cs:List RCell} (hc:∀ c ∈ cs,c.2.2≤1000) (R:Nat):∀ x ∈ rowsL cs R,0≤x∧x≤1000:=fun x hx=>⟨rows_nn cs R x hx,rows_max (by omega) cs hc R x hx⟩
structure HgF (t:T) (RL:List Int) (LL:List (List ByteArray)):Prop where
 len:RL.length=t.rows.length
 lln:LL.length=(gOf t).cells.length
 hold:∀ k,k < (gOf t).cells.length→¬ highV RL ((gOf t).cells.getD k dG) < ((LL.getD k []).length:Int)
 need:∀ r,r < t.rows.length→RL.getD r 0=0∨∃ k,k < (gOf t).cells.length∧(r:Int)=((gOf t).cells.getD k dG).row+((gOf t).cells.getD k dG).rows - 1∧highV RL ((gOf t).cells.getD k dG)=((LL.getD k []).length:Int)
 small:∀ k,k < (gOf t).cells.length→(0≤((gOf t).cells.getD k dG).row∧((gOf t).cells.getD k dG).row≤8)∧1≤((gOf t).cells.getD k dG).rows∧((gOf t).cells.getD k dG).rows≤8
def needB (P:Nat→Bool) (b:Bool):Nat→Bool
 | 0=>b
 | k+1=>needB P b k || P k
def natL (js:List Nat):List Int:=js.map (fun k:Nat=>(k:Int))
theorem natL_len (js:List Nat):(natL js).length=js.length:=by simp [natL]
theorem natL_get {js:List Nat} {k:Nat} (h:k < js.length):(natL js).getD k 0=((js.getD k 0:Nat):Int):=by simp [natL,List.getD,h]
theorem natL_snoc (js:List Nat) (k:Nat):natL (js ++ [k])=natL js ++ [(k:Int)]:=by simp [natL]
theorem selN_yes {P:Nat→Bool} {n:Nat} (h:P n=true):selN P (n+1)=selN P n ++ [n]:=by rw [selN_succ,if_pos h]
theorem selN_no {P:Nat→Bool} {n:Nat} (h:P n=false):selN P (n+1)=selN P n:=by rw [selN_succ,if_neg (by rw [h];simp),List.append_nil]
theorem selN_le (P:Nat→Bool) (n:Nat):(selN P n).length≤n:=by unfold selN;exact Nat.le_trans (List.length_filter_le _ _) (by simp)
theorem selN_lt {P:Nat→Bool} {n k:Nat} (h:k < (selN P n).length):(selN P n).getD k 0 < n∧P ((selN P n).getD k 0)=true:=by
 have e:(selN P n).getD k 0=(selN P n)[k]:=by simp [List.getD,h]
 rw [e]
 exact selN_get h
def fillL (l:List Int) (k:Nat):List Int:=l.take k ++ List.replicate (l.length - k) 0
theorem fillL_len (l:List Int) {k:Nat} (h:k≤l.length):(fillL l k).length=l.length:=by simp [fillL];omega
theorem fillL_zero (l:List Int):fillL l 0=List.replicate l.length 0:=by simp [fillL]
theorem fillL_all (l:List Int):fillL l l.length=l:=by simp [fillL]
theorem fillL_succ {l:List Int} {k:Nat} (h:k < l.length):fillL l (k+1)=(fillL l k).set k (l.getD k 0):=by
 have e:List.replicate (l.length - k) (0:Int)=0 :: List.replicate (l.length - (k+1)) 0:=by
  rw [show l.length - k=(l.length - (k+1))+1 by omega,List.replicate_succ]
 have hl:(l.take k).length=k:=by rw [List.length_take];omega
 unfold fillL
 rw [e,List.set_append_right _ _ (by omega),hl,Nat.sub_self,List.set_cons_zero,List.take_succ_eq_append_getElem h,show l.getD k 0=l[k] by simp [List.getD,h],List.append_assoc]
 rfl
structure Bk2 (r s:Nat) (w w':World):Prop where
 os:w'.os=w.os
 tape:w'.tape=w.tape
 output:w'.output=w.output
 size:w.heap.size≤w'.heap.size
 block:∀ k,k < w.heap.size→k ≠ r→k ≠ s→w'.heap[k]?=w.heap[k]?
theorem Bk2.refl (r s:Nat) (w:World):Bk2 r s w w:=⟨rfl,rfl,rfl,Nat.le_refl _,fun _ _ _ _=>rfl⟩
theorem Bk2.trans {r s:Nat} {a b c:World} (h:Bk2 r s a b) (k:Bk2 r s b c):Bk2 r s a c :=
 ⟨k.os.trans h.os,k.tape.trans h.tape,k.output.trans h.output,Nat.le_trans h.size k.size,fun i hi hr hs=>(k.block i (Nat.lt_of_lt_of_le hi h.size) hr hs).trans (h.block i hi hr hs)⟩
theorem Bk2.of_below {r s:Nat} {w w':World} (h:Below w.heap.size w w'):Bk2 r s w w':=⟨h.os,h.tape,h.output,h.size,fun k hk _ _=>h.block k hk⟩
theorem Bk2.set {r s:Nat} {a w:World} (h:Bk2 r s a w) {p:Addr} (hp:p.block=r∨p.block=s) (u:Value):Bk2 r s a (w.setCell p u) :=
 ⟨h.os,h.tape,h.output,by simpa [World.setCell] using h.size,fun k hk hr hs=>(Below.heap_setCell _ _ _ _ (by omega)).trans (h.block k hk hr hs)⟩
theorem Bk2.below {r s:Nat} {w w':World} (h:Bk2 r s w w') {n:Nat} (hn:n≤w.heap.size) (hr:n≤r) (hs:n≤s):Below n w w':=⟨h.os,h.tape,h.output,h.size,fun k hk=>h.block k (by omega) (by omega) (by omega)⟩
theorem RowI.bk2 {w w':World} {B D r s:Nat} {v:Value} {l:List Int} (h:RowI w B D v l) (k:Bk2 r s w w') (hr:r < B∨D≤r) (hs:s < B∨D≤s):RowI w' B D v l:=h.kept (fun j h0 h1 h2=>k.block j h0 (by omega) (by omega))
def Sp (W:World) (sb:Nat) (ac ar:Option Addr) (cc cr:Nat) (t:T) (width:Int) (g cap C:Nat) (left:Int):Prop :=
 W.heap[sb]?=some (.cells #[.slice ac t.cols.length cc,.int .i64 t.head,.int .i64 t.foot,.slice ar t.rows.length cr,.int .i64 t.gap,.int .i64 width,.slice (some ⟨g,0,none⟩) C cap,.int .i64 left] 73)
theorem Sp.lt {W:World} {sb:Nat} {ac ar:Option Addr} {cc cr:Nat} {t:T} {width:Int} {g cap C:Nat} {left:Int} (h:Sp W sb ac ar cc cr t width g cap C left):sb < W.heap.size:=(bL h)
theorem Sp.kept {W W':World} {sb:Nat} {ac ar:Option Addr} {cc cr:Nat} {t:T} {width:Int} {g cap C:Nat} {left:Int} (h:Sp W sb ac ar cc cr t width g cap C left) (k:Below W.heap.size W W'):Sp W' sb ac ar cc cr t width g cap C left:=(k.block sb h.lt).trans h
theorem Sp.other {W:World} {sb:Nat} {ac ar:Option Addr} {cc cr:Nat} {t:T} {width:Int} {g cap C:Nat} {left:Int} (h:Sp W sb ac ar cc cr t width g cap C left) {p:Addr} (hp:sb ≠ p.block) (u:Value):Sp (W.setCell p u) sb ac ar cc cr t width g cap C left:=(Below.heap_setCell _ _ _ _ hp).trans h
theorem Sp.left {W:World} {sb:Nat} {ac ar:Option Addr} {cc cr:Nat} {t:T} {width:Int} {g cap C:Nat} {left:Int} (h:Sp W sb ac ar cc cr t width g cap C left) (x:Int):Sp (W.setCell ⟨sb,7,none⟩ (.int .i64 x)) sb ac ar cc cr t width g cap C x:=(setB h (p:=7) (.int .i64 x)).trans (by simp)
theorem giveTo_small {l:List Int} {js:List Nat} {g:List Int} {M N:Int} (hM:0≤M) (hl:∀ i,0≤l.getD i 0∧l.getD i 0≤M) (hg:∀ i,0≤g.getD i 0∧g.getD i 0≤N):∀ (k:Nat) (i:Nat),0≤(giveTo l js g k).getD i 0∧(giveTo l js g k).getD i 0≤M+k * N
 | 0,i=>by have:=hl i;simp only [giveTo];omega
 | k+1,i=>by
  have h0:=giveTo_small (js:=js) hM hl hg k i
  have h1:=giveTo_small (js:=js) hM hl hg k (js.getD k 0)
  have h2:=hg k
  have e:((k+1:Nat):Int) * N=k * N+N:=by rw [Int.natCast_add,Int.add_mul];simp
  rw [e]
  simp only [giveTo]
  generalize js.getD k 0=j at h1 ⊢
  generalize giveTo l js g k=L at h0 h1 ⊢
  generalize g.getD k 0=x at h2 ⊢
  by_cases hi:i=j
  ·subst hi
   by_cases hlen:i < L.length
   ·have e2:(L.set i (L.getD i 0+x)).getD i 0=L.getD i 0+x:=by rw [List.getD,List.getElem?_set_self hlen,Option.getD_some]
    rw [e2]
    omega
   ·rw [List.set_eq_of_length_le (by omega)]
    omega
  ·have e2:(L.set j (L.getD j 0+x)).getD i 0=L.getD i 0:=by rw [List.getD,List.getElem?_set_ne (Ne.symm hi)];rfl
   rw [e2]
   omega
theorem all_wt {l:List Int} (h:∀ i,i < l.length→0≤l.getD i 0∧l.getD i 0≤100000):l.all wtB=true:=by
 rw [List.all_eq_true]
 intro x hx
 obtain ⟨i,hi,rfl⟩:=List.mem_iff_getElem.1 hx
 have:=h i hi
 rw [show l.getD i 0=l[i] by simp [List.getD,hi]] at this
 simp only [wtB,decide_eq_true_eq]
 exact this
theorem upTo_small {left:Int} {l:List Int} (hok:shrOkB left l=true):(upToL left l).all wtB=true:=by
 obtain ⟨l1,_,_,_,e1⟩:=upTo_total hok
 obtain ⟨_,_,hw⟩:=shrOk_parts hok
 exact all_wt (fun i hi=>by have:=e1 i (by omega);have:=wt_get hw (i:=i) (by omega);omega)
theorem step_lists {L want:List Int} {P:Nat→Bool} {left:Int} (hl:want.length=L.length) (hok:shrOkB left want=true) (hz:∀ i,i < want.length→P i=false→want.getD i 0=0) :
  shrOkB left (selL want P L.length)=true∧(upToL left (selL want P L.length)).length=(selN P L.length).length∧(upToL left (selL want P L.length)).all wtB=true∧left - (upToL left (selL want P L.length)).sum=upToN left want ∧
  giveTo L (selN P L.length) (upToL left (selL want P L.length)) (selN P L.length).length=addL L (upToL left want):=by
 have hok':shrOkB left (selL want P L.length)=true:=by rw [← hl];exact sel_ok hok
 obtain ⟨e1,e2⟩:=upTo_sel hok hz
 rw [hl] at e1 e2
 obtain ⟨a1,a2,a3,a4,a5⟩:=upTo_total hok
 obtain ⟨b1,b2,b3,b4,b5⟩:=upTo_total hok'
 refine ⟨hok',by rw [b1,selL_len],upTo_small hok',by rw [← e2];omega,?_⟩
 rw [e1]
 refine give_all (by omega) (fun i hi hP=>?_)
 have:=a5 i (by omega)
 rw [hz i (by omega) hP] at this
 omega
structure SpS (w0:World) (sb:Nat) (ac ar:Option Addr) (cc cr:Nat) (t:T) (width:Int) (g cap C D:Nat) (left:Int) (L:List Int) (W:World):Prop where
 bel:Below w0.heap.size w0 W
 sp:Sp W sb ac ar cc cr t width g cap C left
 row:RowI W w0.heap.size D (.slice (some ⟨g,0,none⟩) C cap) L
theorem SpS.kept {w0:World} {sb:Nat} {ac ar:Option Addr} {cc cr:Nat} {t:T} {width:Int} {g cap C D:Nat} {left:Int} {L:List Int} {W W':World} (h:SpS w0 sb ac ar cc cr t width g cap C D left L W) (k:Below W.heap.size W W'):SpS w0 sb ac ar cc cr t width g cap C D left L W' :=
 ⟨k_trans h.bel k,h.sp.kept k,h.row.kept (fun j h0 _ _=>k.block j h0)⟩
theorem SpS.bk {w0:World} {sb:Nat} {ac ar:Option Addr} {cc cr:Nat} {t:T} {width:Int} {g cap C D r:Nat} {left:Int} {L:List Int} {W W':World} (h:SpS w0 sb ac ar cc cr t width g cap C D left L W) (k:Bk r W W') (hr:w0.heap.size≤r) (h1:r ≠ sb) (h2:D≤r):SpS w0 sb ac ar cc cr t width g cap C D left L W' :=
 ⟨h.bel.trans (k.below h.bel.size hr),(k.block sb h.sp.lt (Ne.symm h1)).trans h.sp,h.row.kept (fun j h0 _ h3=>k.block j h0 (by omega))⟩
theorem kind_eq (t:T) (q:Int) (k:Nat):((sd t.cols k).1 == q)=kindP t q k:=by rw [Bool.eq_iff_iff];simp [kindP]
set_option maxRecDepth 100000 in
set_option maxHeartbeats 1000000 in
theorem implofKind (sb:Nat) (ac ar:Option Addr) (cc cr:Nat) (t:T) (width:Int) (g cap C:Nat) (left q:Int) (hC:C≤88) (w:World) {z:Nat} (hS:Sp w sb ac ar cc cr t width g cap C left) (hc:ColsAt w z (.slice ac t.cols.length cc) t.cols) :
  Calls Tryz.prog 99 #[.pointer (some ⟨sb,0,none⟩),.int .i64 q] w fun e w'=>∃ v,e=.returned v∧RowI w' w.heap.size w'.heap.size v (natL (selN (kindP t q) C))∧Below w.heap.size w w':=by
 obtain ⟨i0,hi,hz0,hz1,hz2⟩:=info_parts infoIc
 have hf0:=field0
 have HS:=Hd hS
 have HC:=Hd hc
 have s6:w.cell? ⟨sb,6,none⟩=some (.slice (some ⟨g,0,none⟩) C cap):=cellB hS
 clear hS hc
 go_enter Tryz.func99,Tryz.ntmps99
 go_wp2_with fail
 clear s6
 go_loopw [5,12] (fun o i W=>∃ k:Nat,i=.int .i64 k∧k≤C∧Hid (W.ownsRow w.heap.size 3 1 o (natL (selN (kindP t q) k)).length ((natL (selN (kindP t q) k)).map (Value.int .i64)))∧Hid (Below w.heap.size w W)) (fun _ i _=>C - (intOf i).toNat)
 case atStart=>exact ⟨0,rfl,Nat.zero_le _,⟨by simp [natL,selN],.inl ⟨rfl,by simp [natL,selN]⟩⟩,Below.refl _ _⟩
 case round =>
  obtain ⟨k,rfl,hk,HO,HB⟩:=hrel
  by_cases hlt:k < C
  case neg =>
   obtain rfl:k=C:=by omega
   have HR:=Hd (RowI.of_owns HO.out)
   go_wp2
   go_ret
   exact ⟨_,rfl,HR.out.base (Nat.le_refl _) (Nat.le_refl _),HB.out⟩
  have s0:wr.cell? ⟨sb,0,none⟩=some (.slice ac t.cols.length cc):=cellB (HS.out.kept HB.out)
  have KS:=Hd (implsaidOf _ t.cols (k:Int) wr (HC.out.kept HB.out))
  have hkq:=kind_eq t q k
  have hol:(natL (selN (kindP t q) k)).length≤k:=by rw [natL_len];exact selN_le _ _
  generalize sd t.cols k=p at KS hkq
  cases hp:kindP t q k with
  | false =>
   have HL:Hid (natL (selN (kindP t q) (k+1))=natL (selN (kindP t q) k)):=by rw [Hid,selN_no hp]
   rw [hp] at hkq
   clear hp
   go_wp2_with fail
   refine KS.out.mono ?_
   rintro e w1 ⟨rfl,hb1⟩
   have HB1:=Hd (k_trans HB.out hb1)
   have HO1:=Hd (RowI.of_owns HO.out |>.kept (fun j h0 _ _=>hb1.block j h0))
   clear hb1 s0
   go_wp2
   go_roundw
   case rel=>exact ⟨k+1,by go_num,by omega,by rw [HL.out];exact HO1.out.owns,HB1⟩
   case measure=>simp [intOf];omega
  | true =>
   have HL:Hid (natL (selN (kindP t q) (k+1))=natL (selN (kindP t q) k) ++ [(k:Int)]):=by rw [Hid,selN_yes hp,natL_snoc]
   rw [hp] at hkq
   clear hp
   generalize natL (selN (kindP t q) k)=xs at HO HL hol
   go_wp2_with fail
   refine KS.out.mono ?_
   rintro e w1 ⟨rfl,hb1⟩
   have HB1:=Hd (k_trans HB.out hb1)
   have hO4:=(RowI.of_owns HO.out |>.kept (fun j h0 _ _=>hb1.block j h0)).owns
   have hsz:w.heap.size≤w1.heap.size:=HB1.out.size
   clear hb1 s0
   go_wp2_with (at_builtin;refine wpList_append_own _ rfl _ _ 30 rfl w.heap.size 3 i0 (.int .i64 0) 1 8 Tryz.underlying30 hi hz0 hz1 hz2 rfl (by decide) _ _ _ rfl (hO4.alloc _) ⟨w1.heap.size,0,none⟩ 1 1 [.int .i64 (k:Int)] rfl rfl ?c1 ?c2 ?c3 ?c4 ?c5 ?_)
   case c1 =>
    intro i u hi
    match i,hi with
    | 0,hi=>simp at hi;subst hi;simp [Addr.add]
   case c2=>intro u hu;simp at hu;subst hu;rfl
   case c3=>unfold maxLen;omega
   case c4=>omega
   case c5=>simp;omega
   intro v' w5 hown' hgrow' _
   obtain ⟨hB5,_⟩:=app_keeps (Nat.le_refl _) hO4 HB1.out hgrow'
   have HB5:=Hd hB5
   have HO5:Hid (w5.ownsRow w.heap.size 3 1 v' (xs ++ [(k:Int)]).length ((xs ++ [(k:Int)]).map (Value.int .i64))):=by rw [List.length_append,List.map_append];exact hown'
   obtain ⟨g',cap'',rfl⟩:=Joins.ownsRow_form hown' (by omega)
   clear hown' hgrow' hO4 hB5 HO HB HB1
   go_wp2
   go_roundw
   case rel=>exact ⟨k+1,by go_num,by omega,by rw [HL.out];exact HO5,HB5⟩
   case measure=>simp [intOf];omega
end Go.Proofs.YtojogjlblgcioanGreat
