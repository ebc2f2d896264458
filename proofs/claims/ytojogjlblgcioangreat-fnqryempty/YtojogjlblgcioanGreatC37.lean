/-
  PROVED HERE: no two cells of a drawn table are at one place, all are within the table, and they have no more area than it: facts on lists. Also: 4 more texts of the same proof.
-/
import Derived.Test.YtojogjlblgcioanGreatC24
import Derived.Test.YtojogjlblgcioanGreatC36
import Derived.Test.YtojogjlblgcioanGreatC31
import Derived.Test.YtojogjlblgcioanGreatC34
import Derived.Test.YtojogjlblgcioanGreatC35
import Derived.Test.YtojogjlblgcioanGreatC33
import Derived.Test.YtojogjlblgcioanGreatC30
import Derived.Test.YtojogjlblgcioanGreatC26
import Derived.Test.YtojogjlblgcioanGreatC23
import Derived.Deep.DeepCutAuto
import Derived.Deep.RegionWith
import Derived.Deep.QuietTactic
import Derived.BigQuiet
namespace Go.Proofs.YtojogjlblgcioanGreat
open Go.RowKit
theorem sumTo_mono {l:List Int} (h:∀ x ∈ l,0≤x) {a b:Nat} (hab:a≤b):sumTo l a≤sumTo l b:=by
 have e:b=a+(b - a):=by omega
 rw [sumTo,sumTo,e,List.take_add,List.sum_append]
 have:=sum_nn (l:=List.take (b - a) (List.drop a l)) (fun x hx=>h x (List.mem_of_mem_drop (List.mem_of_mem_take hx)))
 omega
theorem mul_mono {g:Int} (h:0≤g) {a b:Int} (hab:a≤b):g * a≤g * b:=Int.mul_le_mul_of_nonneg_left hab h
structure RPl (t:T) (l rs:List Int) (x:GC) (c m a n:Nat):Prop where
 ec:x.col=c
 em:x.cols=m
 er:x.row=a
 en:x.rows=n
 m1:1≤m
 n1:1≤n
 cm:c+m≤l.length
 an:a+n≤rs.length
 qx:(rectOf t l rs x).x=sumTo l c+t.gap * (c:Int)
 qw:(rectOf t l rs x).w=sumTo l (c+m) - sumTo l c+t.gap * ((m:Int) - 1)
 qy:(rectOf t l rs x).y=sumTo rs a
 qh:(rectOf t l rs x).h=sumTo rs (a+n) - sumTo rs a
structure TabF (t:T) (l rs:List Int):Prop where
 gap:0≤t.gap∧t.gap≤3
 ln:∀ x ∈ l,0≤x∧x≤5000
 rn:∀ x ∈ rs,0≤x∧x≤1000
 l88:l.length≤88
 l1:1≤l.length
 r8:rs.length≤8
 pl:∀ k,k < (gOf t).cells.length→∃ c m a n,RPl t l rs ((gOf t).cells.getD k dG) c m a n
 ap:∀ i j,i < j→j < (gOf t).cells.length→meetsB ((gOf t).cells.getD i dG) ((gOf t).cells.getD j dG)=false
theorem tabF {t:T} (hD:Drawn t) (hok:tblB t=true) {width:Int} (hw:0≤width∧width≤300):TabF t (widL t width) (rowsOfT t (widL t width)):=by
 obtain ⟨_,hlw,_⟩:=acr_wid hD hok hw
 obtain ⟨hC1,hC88,_⟩:=acr_least hD hok
 obtain ⟨h40,C,hgc,hC88',hcel⟩:=cel_of hD
 have hup:=wid_up hD hok hw
 have hCN:=colN_of hgc
 have hcell:=gCell hD hok
 have h8:=tRows hD hok
 have hlr:(rowsOfT t (widL t width)).length=t.rows.length:=by rw [rowsOfT,rowsL_len]
 have hrs:∀ x ∈ rowsOfT t (widL t width),0≤x∧x≤1000:=rows_small (rc_le t (widL t width) (gOf t).cells) t.rows.length
 have hg:0≤t.gap∧t.gap≤3:=by
  simp only [tblB,inB,Bool.and_eq_true,decide_eq_true_eq] at hok
  exact hok.2.2.1
 refine ⟨hg,fun x hx=>hup.mem hx,hrs,by omega,by omega,by omega,fun k hk=>?_,fun i j hij hj=>?_⟩
 ·have hc:=hcel k hk
  obtain ⟨a,n,f1,f2,f3,f4⟩:=hcell k hk
  generalize (gOf t).cells.getD k dG=x at hc f1 f2
  obtain ⟨rn,jn,cn,mn,e1,e2,e3,e4,h1,h2,h3,h4,h5⟩:=hc.ex
  have hb5:UpB (widL t width) 50000:=fun i hi=>⟨(hup i hi).1,by have:=(hup i hi).2;omega⟩
  refine ⟨cn,mn,a,n,e3,e4,f1,f2,h4,f3,by omega,by rw [hlr];exact f4,?_,?_,?_,?_⟩
  ·show atV (widL t width) t.gap x.col=_
   rw [e3]
   have hs:=sum_upB (l:=(widL t width).take cn) (B:=5000) (fun y hy=>hup.mem (List.mem_of_mem_take hy))
   rw [List.length_take] at hs
   have hg1:0≤t.gap * (cn:Int):=Int.mul_nonneg hg.1 (by omega)
   have hg2:t.gap * (cn:Int)≤3 * (cn:Int):=Int.mul_le_mul_of_nonneg_right hg.2 (by omega)
   unfold atV
   rw [aheadN_nat _ (by omega),W_small (by rw [sumTo];omega)]
  ·show cellV (widL t width) t.gap x=_
   rw [cellV_has hc hb5 (by omega),hasV,e3,e4,Int.toNat_natCast,Int.toNat_natCast,sub_sum]
  ·show atV (rowsOfT t (widL t width)) 0 x.row=_
   rw [f1]
   exact at_rows hrs (by omega) (by omega)
  ·have s1:=sumTo_small hrs (a+n)
   have s2:=sumTo_small hrs a
   exact high_span f1 f2 f3 (by rw [hlr];exact f4) (by omega)
 ·have hl:=low_of hok hD
  rw [gOf_ok hok] at hj ⊢
  exact free_mem (laid_of hl hj).free hij (Nat.le_of_lt hj)
structure ApF (t:T) (l rs:List Int) (qs:List QR) (wide high:Int):Prop where
 len:qs.length=(gOf t).cells.length
 box:∀ k,k < qs.length→(0≤(qs.getD k dQ).x∧0≤(qs.getD k dQ).y)∧((qs.getD k dQ).x+(qs.getD k dQ).w≤wide∧(qs.getD k dQ).y+(qs.getD k dQ).h≤high)∧0≤(qs.getD k dQ).w∧0≤(qs.getD k dQ).h
 apart:∀ i j,i < j→j < qs.length→¬ ((qs.getD j dQ).x < (qs.getD i dQ).x+(qs.getD i dQ).w∧(qs.getD i dQ).x < (qs.getD j dQ).x+(qs.getD j dQ).w∧(qs.getD j dQ).y < (qs.getD i dQ).y+(qs.getD i dQ).h∧(qs.getD i dQ).y < (qs.getD j dQ).y+(qs.getD j dQ).h)
 wd:0≤wide∧wide≤1000000
 hg:0≤high∧high≤8000
theorem ap_facts {t:T} {l rs:List Int} (h:TabF t l rs):ApF t l rs (rectsL t l rs (gOf t).cells) (l.sum+t.gap * ((l.length:Int) - 1)) rs.sum:=by
 have hln:∀ x ∈ l,0≤x:=fun x hx=>(h.ln x hx).1
 have hrn:∀ x ∈ rs,0≤x:=fun x hx=>(h.rn x hx).1
 have hsl:=sum_upB (l:=l) (B:=5000) h.ln
 have hsr:=sum_upM h.rn
 have hs0:=sum_nn hln
 have hr0:=sum_nn hrn
 have hg1:0≤t.gap * ((l.length:Int) - 1):=Int.mul_nonneg h.gap.1 (by have:=h.l1;omega)
 have hg2:t.gap * ((l.length:Int) - 1)≤3 * ((l.length:Int) - 1):=Int.mul_le_mul_of_nonneg_right h.gap.2 (by have:=h.l1;omega)
 have h88:=h.l88
 have h8:=h.r8
 have hlen:=rectsL_len t l rs (gOf t).cells
 refine ⟨hlen,fun k hk=>?_,fun i j hij hj=>?_,⟨by omega,by omega⟩,⟨by omega,by omega⟩⟩
 ·rw [hlen] at hk
  rw [rectsL_get t l rs hk]
  obtain ⟨c,m,a,n,p⟩:=h.pl k hk
  rw [p.qx,p.qw,p.qy,p.qh]
  have s1:=sumTo_mono hln (a:=0) (b:=c) (by omega)
  have s2:=sumTo_mono hln (a:=c) (b:=c+m) (by omega)
  have s3:=sumTo_mono hln (a:=c+m) (b:=l.length) p.cm
  rw [sumTo_all] at s3
  have r1:=sumTo_mono hrn (a:=0) (b:=a) (by omega)
  have r2:=sumTo_mono hrn (a:=a) (b:=a+n) (by omega)
  have r3:=sumTo_mono hrn (a:=a+n) (b:=rs.length) p.an
  rw [sumTo_all] at r3
  have z1:sumTo l 0=0:=rfl
  have z2:sumTo rs 0=0:=rfl
  have g1:0≤t.gap * (c:Int):=Int.mul_nonneg h.gap.1 (by omega)
  have g2:0≤t.gap * ((m:Int) - 1):=Int.mul_nonneg h.gap.1 (by have:=p.m1;omega)
  have g3:t.gap * (c:Int)+t.gap * ((m:Int) - 1)≤t.gap * ((l.length:Int) - 1):=by
   rw [← Int.mul_add]
   exact mul_mono h.gap.1 (by have:=p.cm;omega)
  omega
 ·rw [hlen] at hj
  rw [rectsL_get t l rs hj,rectsL_get t l rs (by omega:i < (gOf t).cells.length)]
  obtain ⟨c,m,a,n,p⟩:=h.pl i (by omega)
  obtain ⟨c',m',a',n',p'⟩:=h.pl j hj
  have hm:=h.ap i j hij hj
  rw [p.qx,p.qw,p.qy,p.qh,p'.qx,p'.qw,p'.qy,p'.qh]
  have hm2:¬ (((a:Int) < a'+n'∧(a':Int) < a+n)∧(c:Int) < c'+m'∧(c':Int) < c+m):=by
   intro hh
   rw [meetsB,p.ec,p.em,p.er,p.en,p'.ec,p'.em,p'.er,p'.en] at hm
   simp at hm
   omega
  have n1:=p.n1
  have n2:=p'.n1
  have m1:=p.m1
  have m2:=p'.m1
  have e1:t.gap * (c:Int)+t.gap * ((m:Int) - 1)=t.gap * (((c+m:Nat):Int) - 1):=by rw [← Int.mul_add];congr 1;omega
  have e2:t.gap * (c':Int)+t.gap * ((m':Int) - 1)=t.gap * (((c'+m':Nat):Int) - 1):=by rw [← Int.mul_add];congr 1;omega
  rcases (by omega:a+n≤a'∨a'+n'≤a∨c+m≤c'∨c'+m'≤c) with hc | hc | hc | hc
  ·have:=sumTo_mono hrn hc;omega
  ·have:=sumTo_mono hrn hc;omega
  ·have s:=sumTo_mono hln hc
   have gg:=mul_mono h.gap.1 (a:=((c+m:Nat):Int) - 1) (b:=(c':Int)) (by omega)
   omega
  ·have s:=sumTo_mono hln hc
   have gg:=mul_mono h.gap.1 (a:=((c'+m':Nat):Int) - 1) (b:=(c:Int)) (by omega)
   omega
def areaTo (qs:List QR):Nat→Int
 | 0=>0
 | k+1=>areaTo qs k+(qs.getD k dQ).w * (qs.getD k dQ).h
def natQ (q:QR):Nat × Nat × Nat × Nat:=(q.x.toNat,q.y.toNat,q.w.toNat,q.h.toNat)
def hasQ (qs:List QR) (x y:Int) (k:Nat):Bool:=qinB (qs.getD k dQ).x (qs.getD k dQ).y (qs.getD k dQ).w (qs.getD k dQ).h x y
def HitAt (qs:List QR) (x y r:Int):Prop:=(∃ k:Nat,k < qs.length∧r=k∧hasQ qs x y k=true∧∀ j,j < k→hasQ qs x y j=false)∨(r=-1∧∀ j,j < qs.length→hasQ qs x y j=false)
theorem HitAt.one {qs:List QR} {x y r r':Int} (h:HitAt qs x y r) (h':HitAt qs x y r'):r=r':=by
 rcases h with ⟨k,hk,rfl,e,f⟩ | ⟨rfl,f⟩
 ·rcases h' with ⟨k',hk',rfl,e',f'⟩ | ⟨rfl,f'⟩
  ·rcases Nat.lt_trichotomy k k' with hl | rfl | hl
   ·rw [f' k hl] at e;exact absurd e (by simp)
   ·rfl
   ·rw [f k' hl] at e';exact absurd e' (by simp)
  ·rw [f' k hk] at e;exact absurd e (by simp)
 ·rcases h' with ⟨k',hk',rfl,e',f'⟩ | ⟨rfl,f'⟩
  ·rw [f k' hk'] at e';exact absurd e' (by simp)
  ·rfl
theorem none_next {qs:List QR} {x y:Int} {k:Nat} (h:∀ j,j < k→hasQ qs x y j=false) (hk:hasQ qs x y k=false):∀ j,j < k+1→hasQ qs x y j=false:=fun j hj=>by
 rcases (by omega:j < k∨j=k) with hl | rfl
 ·exact h j hl
 ·exact hk
def QI (q:QR):Prop:=I64 q.x∧I64 q.y∧I64 q.w∧I64 q.h
def InF (qs:List QR):Prop:=(∀ k,k < qs.length→QI (qs.getD k dQ))∧∀ (x y:Int) (i j:Nat),i < j→j < qs.length→hasQ qs x y i=true→hasQ qs x y j=false
theorem inF {t:T} (hD:Drawn t) (x:Int):InF (rectsT t x):=by
 by_cases hm:(tblB t && inB x 0 300)=true
 ·have hm':=hm
  rw [Bool.and_eq_true] at hm'
  have hx:0≤x∧x≤300:=by simpa [inB] using hm'.2
  have h:=ap_facts (tabF hD hm'.1 hx)
  rw [rectsT,if_pos hm]
  generalize rectsL t (widL t x) (rowsOfT t (widL t x)) (gOf t).cells=qs at h
  have hw:=h.wd
  have hh:=h.hg
  refine ⟨fun k hk=>?_,fun px py i j hij hj hi=>?_⟩
  ·have b:=h.box k hk
   unfold QI I64
   omega
  ·have a:=h.apart i j hij hj
   have b1:=h.box i (by omega)
   have b2:=h.box j hj
   unfold hasQ qinB amongB at hi ⊢
   generalize qs.getD i dQ=p at a b1 hi
   generalize qs.getD j dQ=q at a b2
   simp at hi ⊢
   omega
 ·rw [rectsT,if_neg hm]
  exact ⟨fun k hk=>absurd hk (Nat.not_lt_zero _),fun _ _ _ _ _ hj=>absurd hj (Nat.not_lt_zero _)⟩
theorem among_sum {l:List Int} (hn:∀ x ∈ l,0≤x) {g:Int} (hg:0≤g) {c a m:Nat} (hc:c < l.length) (hp:0 < l.getD c 0) (hm:1≤m) :
  amongB (sumTo l c+g * (c:Int)) (sumTo l a+g * (a:Int)) (sumTo l (a+m) - sumTo l a+g * ((m:Int) - 1))=amongB (c:Int) (a:Int) (m:Int):=by
 have hs:=sumTo_succ hc
 have e1:g * (a:Int)+g * ((m:Int) - 1)=g * (((a+m:Nat):Int) - 1):=by rw [← Int.mul_add];congr 1;omega
 unfold amongB
 by_cases h1:c < a
 ·have s:=sumTo_mono hn (a:=c+1) (b:=a) h1
  have g1:=mul_mono hg (a:=(c:Int)) (b:=(a:Int)) (by omega)
  rw [show decide (sumTo l a+g * (a:Int)≤sumTo l c+g * (c:Int))=false by simp;omega,show decide ((a:Int)≤(c:Int))=false by simp;omega]
  rfl
 by_cases h2:c < a+m
 ·have s1:=sumTo_mono hn (a:=a) (b:=c) (by omega)
  have s2:=sumTo_mono hn (a:=c+1) (b:=a+m) h2
  have g1:=mul_mono hg (a:=(a:Int)) (b:=(c:Int)) (by omega)
  have g2:=mul_mono hg (a:=(c:Int)) (b:=((a+m:Nat):Int) - 1) (by omega)
  have k1:sumTo l a+g * (a:Int)≤sumTo l c+g * (c:Int):=by omega
  have k2:0 < sumTo l (a+m) - sumTo l a+g * ((m:Int) - 1):=by omega
  have k3:sumTo l c+g * (c:Int) - (sumTo l a+g * (a:Int)) < sumTo l (a+m) - sumTo l a+g * ((m:Int) - 1):=by omega
  rw [decide_eq_true k1,decide_eq_true k2,decide_eq_true k3,decide_eq_true (show (a:Int)≤(c:Int) by omega),decide_eq_true (show (0:Int) < (m:Int) by omega),decide_eq_true (show (c:Int) - (a:Int) < (m:Int) by omega)]
 ·have s1:=sumTo_mono hn (a:=a+m) (b:=c) (by omega)
  have g2:=mul_mono hg (a:=((a+m:Nat):Int) - 1) (b:=(c:Int)) (by omega)
  have k3:¬ (sumTo l c+g * (c:Int) - (sumTo l a+g * (a:Int)) < sumTo l (a+m) - sumTo l a+g * ((m:Int) - 1)):=by omega
  rw [decide_eq_false k3,decide_eq_false (show ¬ ((c:Int) - (a:Int) < (m:Int)) by omega),Bool.and_false,Bool.and_false]
theorem at_cols {t:T} {l rs:List Int} (h:TabF t l rs) {c:Nat} (hc:c≤l.length):atV l t.gap (c:Int)=sumTo l c+t.gap * (c:Int):=by
 have hs:=sum_upB (l:=l.take c) (B:=5000) (fun y hy=>h.ln y (List.mem_of_mem_take hy))
 have h0:=sum_nn (l:=l.take c) (fun y hy=>(h.ln y (List.mem_of_mem_take hy)).1)
 rw [List.length_take] at hs
 have h88:=h.l88
 have hg1:0≤t.gap * (c:Int):=Int.mul_nonneg h.gap.1 (by omega)
 have hg2:t.gap * (c:Int)≤3 * (c:Int):=Int.mul_le_mul_of_nonneg_right h.gap.2 (by omega)
 unfold atV
 rw [aheadN_nat _ hc,W_small (by rw [sumTo];omega)]
theorem slot_has {t:T} {l rs:List Int} (h:TabF t l rs) {r c:Nat} (hr:r < rs.length) (hc:c < l.length) (pl:0 < l.getD c 0) (pr:0 < rs.getD r 0) {k:Nat} (hk:k < (gOf t).cells.length) :
  hasQ (rectsL t l rs (gOf t).cells) (atV l t.gap (c:Int)) (atV rs 0 (r:Int)) k=holdsB (r:Int) (c:Int) ((gOf t).cells.getD k dG):=by
 have hln:∀ x ∈ l,0≤x:=fun x hx=>(h.ln x hx).1
 have hrn:∀ x ∈ rs,0≤x:=fun x hx=>(h.rn x hx).1
 obtain ⟨c',m,a,n,p⟩:=h.pl k hk
 have e1:=among_sum hln h.gap.1 hc pl (a:=c') p.m1
 have e2:=among_sum hrn (Int.le_refl 0) hr pr (a:=a) p.n1
 simp only [Int.zero_mul,Int.add_zero] at e2
 rw [hasQ,qinB,rectsL_get t l rs hk,p.qx,p.qy,p.qw,p.qh,at_cols h (by omega),at_rows h.rn (by have:=h.r8;omega) (by omega),e1,e2,holdsB,p.ec,p.em,p.er,p.en,Bool.and_comm]
theorem hit_find {qs:List QR} {gs:List GC} {x y:Int} {p:GC→Bool} (hl:qs.length=gs.length) (h:∀ k,k < gs.length→hasQ qs x y k=p (gs.getD k dG)) {r:Int} (hr:HitAt qs x y r):r=findTo p gs:=by
 rcases hr with ⟨k,hk,rfl,e,f⟩ | ⟨rfl,f⟩
 ·exact (findTo_hit (by omega) (fun i hi=>(h i (by omega)).symm.trans (f i hi)) ((h k (by omega)).symm.trans e)).symm
 ·exact (findTo_none (fun i hi=>(h i hi).symm.trans (f i (by omega)))).symm
structure EmF (t:T) (x:Int):Prop where
 slot:∀ r c:Nat,r < (rowsT t x).length→c < (widT t x).length→0 < (widT t x).getD c 0→0 < (rowsT t x).getD r 0→∀ q,HitAt (rectsT t x) (atV (widT t x) t.gap (c:Int)) (atV (rowsT t x) 0 (r:Int)) q→q=findTo (holdsB (r:Int) (c:Int)) (gOf t).cells
 out1:∀ q,HitAt (rectsT t x) (tabV t x) 0 q→q=-1
 out2:∀ q,HitAt (rectsT t x) 0 (rowsT t x).sum q→q=-1
 rlen:(rowsT t x).length≤8
 rw:(rowsT t x).all wtB=true
 clen:(widT t x).length≤88
 tab:I64 (tabV t x)
 sum:I64 (rowsT t x).sum
theorem hit_none {qs:List QR} {x y:Int} (h:∀ k,k < qs.length→hasQ qs x y k=false):∀ q,HitAt qs x y q→q=-1:=by
 rintro q (⟨k,hk,rfl,e,f⟩ | ⟨rfl,f⟩)
 ·rw [h k hk] at e;exact absurd e (by simp)
 ·rfl
theorem small_wtE {l:List Int} (h:∀ x ∈ l,0≤x∧x≤1000):l.all wtB=true:=by
 rw [List.all_eq_true]
 intro x hx
 have:=h x hx
 unfold wtB
 simp
 omega
theorem emF {t:T} (hD:Drawn t) (x:Int):EmF t x:=by
 by_cases hm:(tblB t && inB x 0 300)=true
 ·have hm':=hm
  rw [Bool.and_eq_true] at hm'
  have hx:0≤x∧x≤300:=by simpa [inB] using hm'.2
  have hF:=tabF hD hm'.1 hx
  have hA:=ap_facts hF
  obtain ⟨e1,e2,e3,_⟩:=acr_wid hD hm'.1 hx
  have eR:rowsT t x=rowsOfT t (widL t x):=by rw [rowsT,if_pos hm]
  have eQ:rectsT t x=rectsL t (widL t x) (rowsOfT t (widL t x)) (gOf t).cells:=by rw [rectsT,if_pos hm]
  have hsz:=sumTo_small hF.rn (rowsOfT t (widL t x)).length
  rw [sumTo_all] at hsz
  have hw:=hA.wd
  rw [e2] at hA hw
  rw [← e3] at hA hw
  have hr8:=hF.r8
  have h88:=hF.l88
  refine ⟨fun r c hr hc pc pr q hq=>?_,?_,?_,?_,?_,?_,?_,?_⟩
  ·rw [eR] at hr pr hq
   rw [e1] at hc pc hq
   rw [eQ] at hq
   exact hit_find (rectsL_len _ _ _ _) (fun k hk=>slot_has hF hr hc pc pr hk) hq
  ·rw [eQ]
   refine hit_none fun k hk=>?_
   have b:=hA.box k hk
   unfold hasQ qinB amongB
   generalize (rectsL t (widL t x) (rowsOfT t (widL t x)) (gOf t).cells).getD k dQ=q at b
   simp
   omega
  ·rw [eQ,eR]
   refine hit_none fun k hk=>?_
   have b:=hA.box k hk
   unfold hasQ qinB amongB
   generalize (rectsL t (widL t x) (rowsOfT t (widL t x)) (gOf t).cells).getD k dQ=q at b
   simp
   omega
  ·rw [eR];exact hr8
  ·rw [eR];exact small_wtE hF.rn
  ·rw [e1];exact h88
  ·unfold I64;omega
  ·rw [eR];unfold I64;omega
 ·have eR:rowsT t x=[]:=by rw [rowsT,if_neg hm]
  have eQ:rectsT t x=[]:=by rw [rectsT,if_neg hm]
  have eW:widT t x=[]:=by rw [widT,if_neg hm]
  have eT:tabV t x=0:=tabV_no (by simpa using hm)
  refine ⟨fun r c hr=>?_,?_,?_,?_,?_,?_,?_,?_⟩
  ·rw [eR] at hr;exact absurd hr (Nat.not_lt_zero _)
  ·rw [eQ];exact hit_none fun k hk=>absurd hk (Nat.not_lt_zero _)
  ·rw [eQ];exact hit_none fun k hk=>absurd hk (Nat.not_lt_zero _)
  ·rw [eR];exact Nat.zero_le _
  ·rw [eR];rfl
  ·rw [eW];exact Nat.zero_le _
  ·rw [eT];unfold I64;omega
  ·rw [eR];unfold I64;simp
theorem find_neg {p:GC→Bool} {gs:List GC} (h:findTo p gs < 0):findTo p gs=-1:=by
 unfold findTo at h ⊢
 split
 ·rename_i k e;rw [e] at h;simp at h;omega
 ·rfl
end Go.Proofs.YtojogjlblgcioanGreat
namespace Go.Proofs.YtojogjlblgcioanGreat
open Go.RowKit Go.BigFrame
theorem want1_no {t:T} {width:Int} {L:List Int} {i:Nat} (hi:i < (want1 t width L).length) (hP:kindP t 2 i=false):(want1 t width L).getD i 0=0:=by
 rw [want1_get (by rw [want1_len] at hi;exact hi),if_neg (by rw [hP];simp)]
theorem part_col {t:T} {j:Nat} (h:kindP t 2 j=true):j < t.cols.length∧sd t.cols j=t.cols.getD j (0,0):=by
 by_cases hj:j < t.cols.length
 ·exact ⟨hj,sd_yes hj⟩
 ·rw [kindP,sd_no (inB_false (by omega))] at h
  simp at h
set_option maxRecDepth 100000 in
set_option maxHeartbeats 1000000 in
theorem impltoParts (w0:World) (sb:Nat) (ac ar:Option Addr) (cc cr:Nat) (t:T) (width:Int) (g cap C D:Nat) (left:Int) (L:List Int) {z:Nat} (hc:ColsAt w0 z (.slice ac t.cols.length cc) t.cols) (hC:C≤88) (hCt:C=colN t) (hLC:L.length=C) (hLs:L.all wtB=true) (hg0:w0.heap.size≤g) (hgD:g < D) (hDs:D≤sb) (hw:0≤width∧width≤300) (hok:shrOkB left (want1 t width L)=true) (w:World) (h:SpS w0 sb ac ar cc cr t width g cap C D left L w) :
  Calls Tryz.prog 46 #[.pointer (some ⟨sb,0,none⟩)] w fun e w'=>e=.returned (.tuple #[])∧SpS w0 sb ac ar cc cr t width g cap C D (upToN left (want1 t width L)) (addL L (upToL left (want1 t width L))) w'∧Bk2 g sb w w':=by
 have hmx:Tryz.prog.follows .mixedOrders=true:=by kernel_rfl
 obtain ⟨ok1,len1,all1,sum1,give1⟩:=step_lists (P:=kindP t 2) (want1_len t width L) hok (fun i hi hP=>want1_no hi hP)
 rw [hLC] at ok1 len1 all1 sum1 give1
 have HTl:=Hd (selL_len (want1 t width L) (kindP t 2) C)
 have HTg:=Hd (fun k (hk:k < (selN (kindP t 2) C).length)=>selL_get (l:=want1 t width L) hk)
 have HW:=Hd (fun j (hj:j < C) (hP:kindP t 2 j=true)=>(want1_get (t:=t) (width:=width) (l:=L) (k:=j) (by omega)).trans (if_pos hP))
 have HKd:=Hd (fun j (hj:j < C)=>sd_kind (t:=t) (k:=j) (by omega))
 have HLt:=Hd (fun k (hk:k < (selN (kindP t 2) C).length)=>selN_lt hk)
 have hnl:=selN_le (kindP t 2) C
 have HC:=Hd hc
 have H:=Hd h
 have KO:=Hd (implofKind sb ac ar cc cr t width g cap C left 2 hC w h.sp (hc.kept h.bel))
 have hmk:=makeI (selN (kindP t 2) C).length (by omega)
 have HG1:=Hd give1
 have HSum:=Hd sum1
 have HA1:=Hd all1
 have HLn:=Hd len1
 have hleft:=(shrOk_parts hok).1
 have HOk:=Hd ok1
 generalize selN (kindP t 2) C=js at *
 generalize hT:selL (want1 t width L) (kindP t 2) C=T at *
 clear h hc give1 sum1 all1 len1 ok1 hok hT
 have hTl:=HTl.out
 go_enter Tryz.func46,Tryz.ntmps46
 go_wp2_with fail
 refine KO.out.mono ?_
 rintro e w1 ⟨v1,rfl,hr1,hb1⟩
 obtain ⟨a1,c1,rfl⟩:=hr1.form
 rw [natL_len] at hr1 ⊢
 have HR1:=Hd hr1
 have HS1:=Hd (H.out.kept hb1)
 have HB1:=Hd hb1
 have hz1:=hb1.size
 clear hr1 hb1 KO
 have hn2:(w1.alloc (.cells (newI js.length) 3)).heap.size=w1.heap.size+1:=by simp
 have HN:=Hd (row_new w1 js.length (by omega))
 have hA2:=k_alloc (Below.refl w1.heap.size w1) (.cells (newI js.length) 3)
 go_upto_region 2 with fail
 have HS2:=Hd (HS1.out.kept hA2)
 have HR2:=Hd (HR1.out.kept (w':=w1.alloc (.cells (newI js.length) 3)) (fun j h0 _ _=>hA2.block j h0))
 have HB2:=Hd (k_trans HB1.out hA2)
 have hD2:D≤w1.heap.size:=by have:=HS1.out.sp.lt;omega
 have hsb1:sb < w1.heap.size:=HS1.out.sp.lt
 have hsbw:sb < w.heap.size:=H.out.sp.lt
 have hw0:w0.heap.size≤w1.heap.size:=HS1.out.bel.size
 clear HS1 HR1 HB1 hA2 H
 generalize w1.alloc (.cells (newI js.length) 3)=W2 at HN HS2 HR2 HB2 hn2 ⊢
 generalize w1.heap.size=gb at HN HR2 hn2 hD2 hsb1 hz1 hw0 ⊢
 go_wp2_with fail
 go_loopw [16] (fun s W=>∃ k:Nat,s=.int .i64 k∧k≤js.length∧Hid (RowI W gb (gb+1) (.slice (some ⟨gb,0,none⟩) js.length js.length) (fillL T k))∧Hid (Bk gb W2 W)) (fun s _=>js.length - (intOf s).toNat)
 case atStart=>exact ⟨0,rfl,Nat.zero_le _,by rw [fillL_zero,hTl];exact HN,Bk.refl _ _⟩
 case round =>
  clear HN
  obtain ⟨k,rfl,hk,HF,HB⟩:=hrel
  have HS:=Hd (HS2.out.bk HB.out hw0 (by omega) hD2)
  have HR:=Hd (HR2.out.kept (fun j h0 _ h2=>HB.out.block j h0 (by omega)))
  by_cases hlt:k < js.length
  case pos =>
   obtain ⟨b1,c1',e1,hb1B,_,hb1w,hc11,hc12,hx1,_⟩:=HR.out.get (i:=k) (by rw [natL_len];exact hlt)
   rw [natL_len] at e1 hc11
   rw [natL_get hlt] at hx1
   simp only [Value.slice.injEq,true_and] at e1
   obtain ⟨rfl,rfl⟩:=e1
   obtain ⟨hjC,hjP⟩:=HLt.out k hlt
   have hTk:=HTg.out k hlt
   have hjj:js[k]=js.getD k 0:=by simp [List.getD,hlt]
   rw [hjj] at hTk
   rw [HW.out _ hjC hjP] at hTk
   obtain ⟨hjc,hsd⟩:=part_col hjP
   have hkd:=HKd.out _ hjC
   have hk2:(sd t.cols (js.getD k 0:Nat)).1=2:=by simpa [kindP] using hjP
   rw [hsd] at hTk hkd hk2
   obtain ⟨b,off,cap2,e2,hc21,hc22,hbl,hy0,hy1⟩:=At.get (HC.out.kept HS.out.bel) hjc
   simp only [Value.slice.injEq,true_and] at e2
   obtain ⟨rfl,rfl⟩:=e2
   obtain ⟨g',cap',e3,_,_,hgw,hc31,hc32,hx3,_⟩:=HS.out.row.get (i:=js.getD k 0) (by omega)
   rw [hLC] at e3 hc31
   simp only [Value.slice.injEq,Option.some.injEq,Addr.mk.injEq,and_true,true_and] at e3
   obtain ⟨rfl,rfl⟩:=e3
   have hxs:=getD_small hLs (js.getD k 0)
   generalize js.getD k 0=j at *
   generalize t.cols.getD j (0,0)=p at *
   generalize L.getD j 0=x at *
   have hp2:1≤p.2∧p.2≤100:=by omega
   have hm0:0≤width * p.2:=Int.mul_nonneg hw.1 (by omega)
   have hm1:width * p.2≤30000:=Int.le_trans (Int.mul_le_mul hw.2 hp2.2 (by omega) (by omega)) (by omega)
   have hq:Int.tdiv (width * p.2) 100=width * p.2 / 100:=Int.tdiv_eq_ediv_of_nonneg hm0
   unfold maxLen at hc12 hc22 hc32
   have HFx:=Hd (fillL_succ (l:=T) (k:=k) (by omega))
   rw [hTk] at HFx
   have hne:=bw_some wr
   have m0:=bw_cell (a:=⟨sb,5,none⟩) HS.out.sp.lt (cellB (p:=5) HS.out.sp)
   have m1:=bw_cell (a:=⟨sb,0,none⟩) HS.out.sp.lt (cellB (p:=0) HS.out.sp)
   have m2:=bw_cell hbl hy1
   have HX:=Hd (And.intro hgw hx3)
   clear hy0 hy1 hx3 hTk hsd hkd hk2 hjP
   go_upto_region 5 with fail
   clear hx1
   refine wp_region_quiet_below hmx (by kernel_rfl) ?_
   repeat (go_big_quiet_step (fail))
   refine wpQuiet_nil ?_
   intro W5 hw'
   obtain ⟨⟨Wx,hW5⟩,hw''⟩:=hw'
   subst hw''
   have s6:W5.cell? ⟨sb,6,none⟩=some (.slice (some ⟨g,0,none⟩) C cap):=cellB (p:=6) (HS.out.sp.kept hW5)
   have gx:W5.cell? ⟨g,j,none⟩=some (.int .i64 x):=(hW5.cell (p:=⟨g,j,none⟩) HX.out.1).trans HX.out.2
   have HF5:=Hd (HF.out.kept (fun i h0 _ _=>hW5.block i h0))
   have HB5:=Hd (HB.out.trans (Bk.of_below hW5))
   obtain ⟨g5,cap5,e5,_,_,hgw5,_,_,hx5,hf5⟩:=HF5.out.get (i:=k) (by rw [fillL_len T (by omega)];omega)
   simp only [Value.slice.injEq,Option.some.injEq,Addr.mk.injEq,and_true] at e5
   have eg:=e5.1
   clear e5
   subst eg
   have HF6:=Hd (HF5.out.set (i:=k) (by rw [fillL_len T (by omega)];omega) (max 0 (width * p.2 / 100 - x)))
   rw [← HFx.out] at HF6
   have hyb:0≤width * p.2 / 100∧width * p.2 / 100≤300:=by omega
   generalize width * p.2 / 100=y at *
   clear m0 m1 m2 hne hW5 HX HF HB HF5 HFx
   go_wp2
   go_roundw
   case rel=>exact ⟨k+1,by go_num,by omega,HF6,HB5.out.set (p:=⟨gb,k,none⟩) (.inl rfl) _⟩
   case measure=>simp [intOf];omega
  case neg =>
   obtain rfl:k=js.length:=by omega
   have s7:wr.cell? ⟨sb,7,none⟩=some (.int .i64 left):=cellB (p:=7) HS.out.sp
   have HF':Hid (RowI wr gb (gb+1) (.slice (some ⟨gb,0,none⟩) js.length js.length) T):=by rw [← fillL_all T,hTl];exact HF
   have KU:=Hd (shareUpTo_any left _ T HOk.out wr HF'.out.at)
   go_wp2_with fail
   refine KU.out.mono ?_
   rintro e w5 ⟨v5,rfl,hr5,hb5⟩
   obtain ⟨a5,c5,rfl⟩:=hr5.form
   have hz5:=hb5.size
   have hzr:=HB.out.size
   have KG:=Hd (implgive sb ac ar cc cr t width g cap C left L (upToL left T) js (.slice a1 js.length c1) (.slice a5 (upToL left T).length c5) w0.heap.size D w.heap.size hLC (fun k hk=>(HLt.out k hk).1) (by omega) HLn.out hLs HA1.out hleft hgD hDs hsbw w5 (HS.out.kept hb5).sp (HS.out.kept hb5).row ((HR.out.kept (fun j h0 _ _=>hb5.block j h0)).base (Nat.le_refl _) (by omega)) (hr5.base (by omega) (Nat.le_refl _)))
   have HB6:=Hd ((HB2.out.trans (HB.out.below (n:=w.heap.size) (by omega) (by omega))).trans (hb5.mono (by omega)))
   have HL6:=Hd ((HS.out.kept hb5).bel)
   clear KU s7
   go_wp2_with fail
   refine KG.out.mono ?_
   rintro e w6 ⟨rfl,hs6,hr6,hb6⟩
   have HF6:=Hd (SpS.mk (HL6.out.trans (hb6.below HL6.out.size hg0 (by omega))) hs6 hr6)
   rw [HSum.out,HG1.out] at HF6
   have HK6:=Hd ((Bk2.of_below HB6.out).trans hb6)
   clear hs6 hr6 hb6
   go_wp2
   go_end0
   exact ⟨rfl,HF6.out,HK6.out⟩
set_option maxRecDepth 100000 in
set_option maxHeartbeats 1000000 in
theorem wideEnough_TxtLeast (nd:ByteArray→Int) (hnd:∀ s,0≤nd s∧nd s≤30) (KN:∀ (s:ByteArray) (W:World),s.size≤maxLen→Calls Tryz.prog 97 #[.string s] W fun e w'=>e=.returned (.int .i64 (nd s))∧Below W.heap.size W w')
  (ac ar:Option Addr) (cc cr:Nat) (t:T) (hD:Drawn t) (w:World) {z:Nat} (hc:ColsAt w z (.slice ac t.cols.length cc) t.cols) (hr:RowsAt w z (.slice ar t.rows.length cr) t.rows) (C:Nat) (hgc:(gOf t).cols=C) :
  Calls Tryz.prog 96 #[.agg #[.slice ac t.cols.length cc,.int .i64 t.head,.int .i64 t.foot,.slice ar t.rows.length cr,.int .i64 t.gap],.func (.func 97) #[] #[]] w fun e w'=>∃ v,e=.returned v∧RowI w' w.heap.size w'.heap.size v (needTo (fun x=>nd (textOf t x)) t.gap (gOf t).cells (zeroL C) 4)∧Below w.heap.size w w':=by
 obtain ⟨h40,C',hgc',hC88,hcel⟩:=cel_of hD
 obtain rfl:C'=C:=by rw [hgc'] at hgc;omega
 have K0:=k_alloc (Below.refl w.heap.size w) (.cells #[.slice ac t.cols.length cc,.int .i64 t.head,.int .i64 t.foot,.slice ar t.rows.length cr,.int .i64 t.gap] 26)
 have HN:=Hd KN
 have HCel:=Hd hcel
 have HDr:=Hd hD
 have HGC:=Hd hgc'
 have hup:=need_up (p:=fun x=>nd (textOf t x)) (l:=zeroL C') hcel h40 (by simp [zeroL]) (fun x=>(hnd _).2) (zero_up _)
 have HUp:=Hd hup
 have hps:=fun s hs=>pass_up (p:=fun x=>nd (textOf t x)) (s:=((s+1:Nat):Int)) (l:=needTo (fun x=>nd (textOf t x)) t.gap (gOf t).cells (zeroL C') s) hcel (by rw [needTo_len];simp [zeroL]) (fun x=>(hnd _).2) (hup s hs)
 have HPs:=Hd hps
 have HT:=Hd (And.intro (hc.kept K0) (hr.kept K0))
 have HX:=Hd (newestB w (.cells #[.slice ac t.cols.length cc,.int .i64 t.head,.int .i64 t.foot,.slice ar t.rows.length cr,.int .i64 t.gap] 26))
 have HK:=Hd K0
 have hmk:=makeI C' (by omega)
 have hmx:Tryz.prog.follows .mixedOrders=true:=by kernel_rfl
 clear hcel hD hup hps hc hr K0 KN hgc' hgc
 go_enter Tryz.func96,Tryz.ntmps96
 go_wp2_with fail
 refine (implGrdOf ac ar cc cr t HDr.out _ HT.out.1 HT.out.2).mono ?_
 rintro e w2 ⟨vg,rfl,hO2,hb2⟩
 obtain ⟨ag,cg,rfl⟩:=own_slice hO2
 have hG2:=hO2.at (gOf_gok HDr.out)
 have HW:Hid (Ws w z w2.heap.size ac ar cc cr t ag cg (w2.alloc (.cells #[.int .i64 (gOf t).rows,.int .i64 (gOf t).cols,.slice ag (gOf t).cells.length cg] 34))) :=
  ⟨k_alloc (k_trans HK.out hb2) _,⟨(HT.out.1.kept hb2).kept (k_alloc (Below.refl _ _) _),(HT.out.2.kept hb2).kept (k_alloc (Below.refl _ _) _)⟩,(Below.heap_alloc _ _ _ (Nat.lt_of_lt_of_le (by simp) hb2.size)).trans ((hb2.block w.heap.size (by simp)).trans HX.out),(hG2.base (by simp)).kept (k_alloc (Below.refl _ _) _),newestB _ _⟩
 have hz2:w.heap.size < w2.heap.size:=Nat.lt_of_lt_of_le (by simp) hb2.size
 clear hO2 hb2 hG2 HT HX HK
 go_upto_region 2 with fail
 generalize hW3:w2.alloc (.cells #[.int .i64 (gOf t).rows,.int .i64 (gOf t).cols,.slice ag (gOf t).cells.length cg] 34)=W3 at HW ⊢
 have hz3:W3.heap.size=w2.heap.size+1:=by rw [← hW3];simp
 clear hW3
 obtain ⟨y0,y1,y2,y3⟩:=HW.out.at
 rw [HGC.out] at y2
 go_wp2_with fail
 clear hmk y0 y1 y2 y3
 have S0:Hid (RowI (W3.alloc (.cells (newI C') 3)) (w2.heap.size+1) (w2.heap.size+2) (.slice (some ⟨w2.heap.size+1,0,none⟩) C' C') (zeroL C')):=by have h:=row_new W3 C' (by omega);rw [hz3] at h;exact h
 go_loopw [7] (fun s W=>∃ m:Nat,s=.int .i64 ((m:Int)+1)∧m≤4∧Hid (RowI W (w2.heap.size+1) (w2.heap.size+2) (.slice (some ⟨w2.heap.size+1,0,none⟩) C' C') (needTo (fun x=>nd (textOf t x)) t.gap (gOf t).cells (zeroL C') m))∧Hid (Below W3.heap.size W3 W)∧W3.heap.size < W.heap.size) (fun s _=>5 - (intOf s).toNat)
 case atStart=>exact ⟨0,rfl,by omega,S0,k_alloc (Below.refl _ _) _,by simp⟩
 case round =>
  clear S0
  obtain ⟨m,rfl,hm,HR,HB,hsz⟩:=hrel
  by_cases hlt:m < 4
  case neg =>
   obtain rfl:m=4:=by omega
   have hK:=Hd (HW.out.1.trans (HB.out.mono (by omega)))
   have HF:=Hd (HR.out.base (B':=w.heap.size) (D':=wr.heap.size) (by omega) (by omega))
   go_wp2
   go_ret
   exact ⟨_,rfl,HF.out,hK.out⟩
  have HWr:=Hd (HW.out.kept HB.out)
  obtain ⟨y0,y1,y2,y3⟩:=HWr.out.at
  rw [HGC.out] at y2
  go_wp2_with fail
  clear y0 y1 y2 y3 HWr
  have HUm:=Hd (HPs.out m (by omega) (by omega))
  rw [show decide ((m:Int)+1≤4)=true by simp;omega]
  go_loopw [22] (fun s W=>∃ k:Nat,s=.int .i64 k∧k≤(gOf t).cells.length∧Hid (RowI W (w2.heap.size+1) (w2.heap.size+2) (.slice (some ⟨w2.heap.size+1,0,none⟩) C' C') (passTo (fun x=>nd (textOf t x)) t.gap ((m+1:Nat):Int) (gOf t).cells (needTo (fun x=>nd (textOf t x)) t.gap (gOf t).cells (zeroL C') m) k))∧Hid (Below W3.heap.size W3 W)∧W3.heap.size < W.heap.size) (fun s _=>(gOf t).cells.length - (intOf s).toNat)
  case atStart=>exact ⟨0,rfl,Nat.zero_le _,HR,HB,hsz⟩
  case round =>
   clear HR HB hsz
   obtain ⟨k,rfl,hk,HR,HB,hsz⟩:=hrel
   by_cases hkl:k < (gOf t).cells.length
   case neg =>
    obtain rfl:k=(gOf t).cells.length:=by omega
    go_wp2
    go_roundw
    case rel=>exact ⟨m+1,by go_num,by omega,HR,HB,hsz⟩
    case measure=>simp [intOf];omega
   have HWr:=Hd (HW.out.kept HB.out)
   obtain ⟨b,off,cap',e',hc1,hc2,hbl,hx,_⟩:=At.get HWr.out.2.2.2.1 hkl
   simp only [Value.slice.injEq,true_and] at e'
   obtain ⟨rfl,rfl⟩:=e'
   unfold maxLen at hc2
   have HCe:=Hd (HCel.out k hkl)
   obtain ⟨⟨rn,jn,cn,mn,e1,e2,e3,e4,h1,h2,h3,h4,h5⟩,hgp,hrs⟩:=HCel.out k hkl
   have HSz:Hid ((textOf t ((gOf t).cells.getD k dG)).size≤maxLen):=text_size HCe.out HWr.out.2.1.2
   have hub:=HUm.out k hk
   have HNo:Hid ((mn:Int) ≠ ((m+1:Nat):Int)→passTo (fun x=>nd (textOf t x)) t.gap ((m+1:Nat):Int) (gOf t).cells (needTo (fun x=>nd (textOf t x)) t.gap (gOf t).cells (zeroL C') m) (k+1)=passTo (fun x=>nd (textOf t x)) t.gap ((m+1:Nat):Int) (gOf t).cells (needTo (fun x=>nd (textOf t x)) t.gap (gOf t).cells (zeroL C') m) k):=fun h=>by rw [passTo,if_neg (by rw [e4];exact h)]
   have HYes:Hid ((mn:Int)=((m+1:Nat):Int)→passTo (fun x=>nd (textOf t x)) t.gap ((m+1:Nat):Int) (gOf t).cells (needTo (fun x=>nd (textOf t x)) t.gap (gOf t).cells (zeroL C') m) (k+1)=wideL (passTo (fun x=>nd (textOf t x)) t.gap ((m+1:Nat):Int) (gOf t).cells (needTo (fun x=>nd (textOf t x)) t.gap (gOf t).cells (zeroL C') m) k) cn mn t.gap (nd (textOf t ((gOf t).cells.getD k dG)))):=fun h=>by rw [passTo,if_pos (by rw [e4];exact h),e3,e4,Int.toNat_natCast,Int.toNat_natCast]
   have hpl:=passTo_len (fun x=>nd (textOf t x)) t.gap ((m+1:Nat):Int) (gOf t).cells (needTo (fun x=>nd (textOf t x)) t.gap (gOf t).cells (zeroL C') m) k
   rw [needTo_len,show (zeroL C').length=C' by simp [zeroL]] at hpl
   generalize (gOf t).cells.getD k dG=x at hx e1 e2 e3 e4 HYes hrs HCe HSz
   generalize hL:passTo (fun x=>nd (textOf t x)) t.gap ((m+1:Nat):Int) (gOf t).cells (needTo (fun x=>nd (textOf t x)) t.gap (gOf t).cells (zeroL C') m) k=L at HR HNo HYes hub hpl
   clear hL
   have HKT:=Hd (fun (W:World) (hR:RowsAt W z (.slice ar t.rows.length cr) t.rows)=>impltextOf ac ar cc cr t x HCe.out W hR)
   simp only [e1,e2,e3,e4] at HKT
   obtain ⟨x0,x1,x2,x3,x4⟩:=hx
   rw [e1] at x0
   rw [e2] at x4
   rw [e3] at x1
   rw [e4] at x3
   by_cases hms:(mn:Int)=(m:Int)+1
   case neg =>
    have hmb:((mn:Int) == (m:Int)+1)=false:=by simpa using hms
    have HL:=Hd (HNo.out (by omega))
    clear HNo HYes e1 e2 e3 e4 hms
    go_wp2
    go_roundw
    case rel=>exact ⟨k+1,by go_num,by omega,by rw [HL.out];exact HR.out.kept (fun j h0 _ _=>Below.heap_alloc _ _ _ h0),k_alloc HB.out _,by simp;omega⟩
    case measure=>simp [intOf];omega
   obtain rfl:mn=m+1:=by omega
   have HL:=Hd (HYes.out rfl)
   have hmb:((m:Int)+1 == (m:Int)+1)=true:=by simp
   have hcast:((m+1:Nat):Int)=(m:Int)+1:=by omega
   rw [hcast] at x3
   simp only [hcast] at HKT
   clear hcast
   clear HNo HYes e1 e2 e3 e4 hms
   go_upto_region 10 with fail
   have HW4:Hid (Ws w z w2.heap.size ac ar cc cr t (some ⟨b,off,none⟩) cg (wr.alloc (.cells #[.int .i64 (rn:Int),.int .i64 (cn:Int),.int .i64 x.rows,.int .i64 ((m:Int)+1),.int .i64 (jn:Int)] 78))):=HWr.out.kept (k_alloc (Below.refl _ _) _)
   have HB4:=Hd (k_alloc HB.out (.cells #[.int .i64 (rn:Int),.int .i64 (cn:Int),.int .i64 x.rows,.int .i64 ((m:Int)+1),.int .i64 (jn:Int)] 78))
   have HR4:=Hd (HR.out.kept (fun j h0 _ _=>Below.heap_alloc wr (.cells #[.int .i64 (rn:Int),.int .i64 (cn:Int),.int .i64 x.rows,.int .i64 ((m:Int)+1),.int .i64 (jn:Int)] 78) j h0))
   have HX4:=Hd (newestB wr (.cells #[.int .i64 (rn:Int),.int .i64 (cn:Int),.int .i64 x.rows,.int .i64 ((m:Int)+1),.int .i64 (jn:Int)] 78))
   have hsz4:W3.heap.size < (wr.alloc (.cells #[.int .i64 (rn:Int),.int .i64 (cn:Int),.int .i64 x.rows,.int .i64 ((m:Int)+1),.int .i64 (jn:Int)] 78)).heap.size:=by simp;omega
   generalize wr.alloc (.cells #[.int .i64 (rn:Int),.int .i64 (cn:Int),.int .i64 x.rows,.int .i64 ((m:Int)+1),.int .i64 (jn:Int)] 78)=W4 at HW4 HB4 HR4 HX4 hsz4 ⊢
   generalize wr.heap.size=cb at HX4 ⊢
   clear HWr HR HB hsz x0 x1 x2 x3 x4 hbl
   have q1:W4.cell? ⟨cb,1,none⟩=some (.int .i64 (cn:Int)):=cellB HX4.out
   have hcb:cb < W4.heap.size:=(bL HX4.out)
   have htb:w.heap.size < W4.heap.size:=(bL HW4.out.2.2.1)
   obtain ⟨y0,y1,y2,y3⟩:=HW4.out.at
   obtain ⟨t3,t4,t5,t6,t10,t11,t12,t13⟩:=slice_facts h3 hC88
   have hne:=bw_some W4
   have g0:=bw_cell (a:=⟨cb,0,none⟩) hcb (cellB (p:=0) HX4.out)
   have g1:=bw_cell (a:=⟨cb,1,none⟩) hcb (cellB (p:=1) HX4.out)
   have g2:=bw_cell (a:=⟨cb,2,none⟩) hcb (cellB (p:=2) HX4.out)
   have g3:=bw_cell (a:=⟨cb,3,none⟩) hcb (cellB (p:=3) HX4.out)
   have g4:=bw_cell (a:=⟨cb,4,none⟩) hcb (cellB (p:=4) HX4.out)
   have b0:=bw_cell (a:=⟨w.heap.size,0,none⟩) htb (cellB (p:=0) HW4.out.2.2.1)
   have b1:=bw_cell (a:=⟨w.heap.size,1,none⟩) htb (cellB (p:=1) HW4.out.2.2.1)
   have b2:=bw_cell (a:=⟨w.heap.size,2,none⟩) htb (cellB (p:=2) HW4.out.2.2.1)
   have b3:=bw_cell (a:=⟨w.heap.size,3,none⟩) htb (cellB (p:=3) HW4.out.2.2.1)
   have b4:=bw_cell (a:=⟨w.heap.size,4,none⟩) htb (cellB (p:=4) HW4.out.2.2.1)
   have KT:=Hd (fun (p:BW W4)=>bw_of ((HKT.out p.u (HW4.out.kept p.h).2.1.2).mono (fun _ _ ⟨h1,_,h2⟩=>And.intro h1 h2)))
   have KND:=Hd (fun (p:BW W4)=>bw_of (HN.out (textOf t x) p.u HSz.out))
   have KW:=Hd (fun W=>widen_any (w2.heap.size+1) (w2.heap.size+2) (w2.heap.size+1) C' C' L (fun i hi=>by have:=hub i hi;omega) cn (m+1) (by rw [hpl];exact h3) ⟨h4,h5⟩ t.gap (nd (textOf t x)) hgp (hnd (textOf t x)) W)
   clear y0 y1 y2 y3 q1
   refine wp_region_last 15 hmx (by rfl) (by rfl) (by kernel_rfl) (by kernel_rfl) ?_
   simp only [List.take_succ_cons,List.take_zero]
   repeat (go_big_quiet_step (first | (go_at_call 105;refine KT.out _) | (go_at_call 97;refine KND.out _)))
   refine wpQuiet_nil ?_
   intro W5 hw'
   obtain ⟨⟨Wx,hW5⟩,hw''⟩:=hw'
   subst hw''
   have HB5:=Hd (HB4.out.trans (hW5.mono (Nat.le_of_lt hsz4)))
   have HR5:=Hd (HR4.out.kept (fun j h0 _ _=>hW5.block j h0))
   have hsz5:W3.heap.size < W5.heap.size:=Nat.lt_of_lt_of_le hsz4 hW5.size
   clear g0 g1 g2 g3 g4 b0 b1 b2 b3 b4 KT KND HKT HW4 HB4 HR4 HX4 hsz4 hW5 hne
   rw [if_pos (by rfl)]
   go_simp
   go_wp2_with (go_at_call 153;refine (KW.out W5 HR5.out (by omega)).mono ?_;rintro e w7 ⟨rfl,hr7,hk7⟩;have HR7:=Hd hr7;have HB7:=Hd (HB5.out.trans (hk7.below (Nat.le_of_lt hsz5) (by omega)));have hsz7:W3.heap.size < w7.heap.size:=Nat.lt_of_lt_of_le hsz5 hk7.size;clear hr7 hk7)
   go_roundw
   case rel=>exact ⟨k+1,by go_num,by omega,by rw [HL.out];exact HR7.out,HB7,hsz7⟩
   case measure=>simp [intOf];omega
end Go.Proofs.YtojogjlblgcioanGreat
