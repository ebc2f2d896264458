/-
  PROVED HERE: no two cells of a drawn table are at one place, all are within the table, and they have no more area than it: facts on lists. Also: 5 more texts of the same proof.
-/
import Derived.Test.YtcbibdhlkdcmiaiGreatD45
import Derived.Test.YtcbibdhlkdcmiaiGreatD36
import Derived.Test.YtcbibdhlkdcmiaiGreatD41
import Derived.Test.YtcbibdhlkdcmiaiGreatD38
import Derived.Test.YtcbibdhlkdcmiaiGreatC24
import Derived.Test.YtcbibdhlkdcmiaiGreatD32
import Derived.Test.YtcbibdhlkdcmiaiGreatD31
import Derived.Test.YtcbibdhlkdcmiaiGreatC12
import Derived.Test.YtcbibdhlkdcmiaiGreatC21
import Derived.Test.YtcbibdhlkdcmiaiGreatC20
import Derived.Test.YtcbibdhlkdcmiaiGreatC16
import Derived.Test.YtcbibdhlkdcmiaiGreatC18
import Derived.Test.YtcbibdhlkdcmiaiGreatC17
import Derived.Deep.RegionWith
import Derived.Laws.StructEq
import Derived.Deep.DeepCutAuto
namespace Go.Proofs.YtcbibdhlkdcmiaiGreat
open Go.RowKit
theorem sumTo_mono {l:List Int} (h:∀ x ∈ l,0≤x) {a b:Nat} (hab:a≤b):sumTo l a≤sumTo l b:=by
 have e:b=a+(b - a):=by omega
 rw [sumTo,sumTo,e,List.take_add,List.sum_append]
 have:=sum_nn (l:=List.take (b - a) (List.drop a l)) (fun x hx=>h x (List.mem_of_mem_drop (List.mem_of_mem_take hx)))
 omega
theorem mul_mono {g:Int} (h:0≤g) {a b:Int} (hab:a≤b):g * a≤g * b:=Int.mul_le_mul_of_nonneg_left hab h
structure RPl (t:T) (l rs:List Int) (x:GC) (c m a n:Nat):Prop where
 ec:x.col=c
 em:x.cols=m
 er:x.row=a
 en:x.rows=n
 m1:1≤m
 n1:1≤n
 cm:c+m≤l.length
 an:a+n≤rs.length
 qx:(rectOf t l rs x).x=sumTo l c+t.gap * (c:Int)
 qw:(rectOf t l rs x).w=sumTo l (c+m) - sumTo l c+t.gap * ((m:Int) - 1)
 qy:(rectOf t l rs x).y=sumTo rs a
 qh:(rectOf t l rs x).h=sumTo rs (a+n) - sumTo rs a
structure TabF (t:T) (l rs:List Int):Prop where
 gap:0≤t.gap∧t.gap≤3
 ln:∀ x ∈ l,0≤x∧x≤5000
 rn:∀ x ∈ rs,0≤x∧x≤1000
 l88:l.length≤88
 l1:1≤l.length
 r8:rs.length≤8
 pl:∀ k,k < (gOf t).cells.length→∃ c m a n,RPl t l rs ((gOf t).cells.getD k dG) c m a n
 ap:∀ i j,i < j→j < (gOf t).cells.length→meetsB ((gOf t).cells.getD i dG) ((gOf t).cells.getD j dG)=false
theorem tabF {t:T} (hD:Drawn t) (hok:tblB t=true) {width:Int} (hw:0≤width∧width≤300):TabF t (widL t width) (rowsOfT t (widL t width)):=by
 obtain ⟨_,hlw,_⟩:=acr_wid hD hok hw
 obtain ⟨hC1,hC88,_⟩:=acr_least hD hok
 obtain ⟨h40,C,hgc,hC88',hcel⟩:=cel_of hD
 have hup:=wid_up hD hok hw
 have hCN:=colN_of hgc
 have hcell:=gCell hD hok
 have h8:=tRows hD hok
 have hlr:(rowsOfT t (widL t width)).length=t.rows.length:=by rw [rowsOfT,rowsL_len]
 have hrs:∀ x ∈ rowsOfT t (widL t width),0≤x∧x≤1000:=rows_small (rc_le t (widL t width) (gOf t).cells) t.rows.length
 have hg:0≤t.gap∧t.gap≤3:=by
  simp only [tblB,inB,Bool.and_eq_true,decide_eq_true_eq] at hok
  exact hok.2.2.1
 refine ⟨hg,fun x hx=>hup.mem hx,hrs,by omega,by omega,by omega,fun k hk=>?_,fun i j hij hj=>?_⟩
 ·have hc:=hcel k hk
  obtain ⟨a,n,f1,f2,f3,f4⟩:=hcell k hk
  generalize (gOf t).cells.getD k dG=x at hc f1 f2
  obtain ⟨rn,jn,cn,mn,e1,e2,e3,e4,h1,h2,h3,h4,h5⟩:=hc.ex
  have hb5:UpB (widL t width) 50000:=fun i hi=>⟨(hup i hi).1,by have:=(hup i hi).2;omega⟩
  refine ⟨cn,mn,a,n,e3,e4,f1,f2,h4,f3,by omega,by rw [hlr];exact f4,?_,?_,?_,?_⟩
  ·show atV (widL t width) t.gap x.col=_
   rw [e3]
   have hs:=sum_upB (l:=(widL t width).take cn) (B:=5000) (fun y hy=>hup.mem (List.mem_of_mem_take hy))
   rw [List.length_take] at hs
   have hg1:0≤t.gap * (cn:Int):=Int.mul_nonneg hg.1 (by omega)
   have hg2:t.gap * (cn:Int)≤3 * (cn:Int):=Int.mul_le_mul_of_nonneg_right hg.2 (by omega)
   unfold atV
   rw [aheadN_nat _ (by omega),W_small (by rw [sumTo];omega)]
  ·show cellV (widL t width) t.gap x=_
   rw [cellV_has hc hb5 (by omega),hasV,e3,e4,Int.toNat_natCast,Int.toNat_natCast,sub_sum]
  ·show atV (rowsOfT t (widL t width)) 0 x.row=_
   rw [f1]
   exact at_rows hrs (by omega) (by omega)
  ·have s1:=sumTo_small hrs (a+n)
   have s2:=sumTo_small hrs a
   exact high_span f1 f2 f3 (by rw [hlr];exact f4) (by omega)
 ·have hl:=low_of hok hD
  rw [gOf_ok hok] at hj ⊢
  exact free_mem (laid_of hl hj).free hij (Nat.le_of_lt hj)
structure ApF (t:T) (l rs:List Int) (qs:List QR) (wide high:Int):Prop where
 len:qs.length=(gOf t).cells.length
 box:∀ k,k < qs.length→(0≤(qs.getD k dQ).x∧0≤(qs.getD k dQ).y)∧((qs.getD k dQ).x+(qs.getD k dQ).w≤wide∧(qs.getD k dQ).y+(qs.getD k dQ).h≤high)∧0≤(qs.getD k dQ).w∧0≤(qs.getD k dQ).h
 apart:∀ i j,i < j→j < qs.length→¬ ((qs.getD j dQ).x < (qs.getD i dQ).x+(qs.getD i dQ).w∧(qs.getD i dQ).x < (qs.getD j dQ).x+(qs.getD j dQ).w∧(qs.getD j dQ).y < (qs.getD i dQ).y+(qs.getD i dQ).h∧(qs.getD i dQ).y < (qs.getD j dQ).y+(qs.getD j dQ).h)
 wd:0≤wide∧wide≤1000000
 hg:0≤high∧high≤8000
theorem ap_facts {t:T} {l rs:List Int} (h:TabF t l rs):ApF t l rs (rectsL t l rs (gOf t).cells) (l.sum+t.gap * ((l.length:Int) - 1)) rs.sum:=by
 have hln:∀ x ∈ l,0≤x:=fun x hx=>(h.ln x hx).1
 have hrn:∀ x ∈ rs,0≤x:=fun x hx=>(h.rn x hx).1
 have hsl:=sum_upB (l:=l) (B:=5000) h.ln
 have hsr:=sum_upM h.rn
 have hs0:=sum_nn hln
 have hr0:=sum_nn hrn
 have hg1:0≤t.gap * ((l.length:Int) - 1):=Int.mul_nonneg h.gap.1 (by have:=h.l1;omega)
 have hg2:t.gap * ((l.length:Int) - 1)≤3 * ((l.length:Int) - 1):=Int.mul_le_mul_of_nonneg_right h.gap.2 (by have:=h.l1;omega)
 have h88:=h.l88
 have h8:=h.r8
 have hlen:=rectsL_len t l rs (gOf t).cells
 refine ⟨hlen,fun k hk=>?_,fun i j hij hj=>?_,⟨by omega,by omega⟩,⟨by omega,by omega⟩⟩
 ·rw [hlen] at hk
  rw [rectsL_get t l rs hk]
  obtain ⟨c,m,a,n,p⟩:=h.pl k hk
  rw [p.qx,p.qw,p.qy,p.qh]
  have s1:=sumTo_mono hln (a:=0) (b:=c) (by omega)
  have s2:=sumTo_mono hln (a:=c) (b:=c+m) (by omega)
  have s3:=sumTo_mono hln (a:=c+m) (b:=l.length) p.cm
  rw [sumTo_all] at s3
  have r1:=sumTo_mono hrn (a:=0) (b:=a) (by omega)
  have r2:=sumTo_mono hrn (a:=a) (b:=a+n) (by omega)
  have r3:=sumTo_mono hrn (a:=a+n) (b:=rs.length) p.an
  rw [sumTo_all] at r3
  have z1:sumTo l 0=0:=rfl
  have z2:sumTo rs 0=0:=rfl
  have g1:0≤t.gap * (c:Int):=Int.mul_nonneg h.gap.1 (by omega)
  have g2:0≤t.gap * ((m:Int) - 1):=Int.mul_nonneg h.gap.1 (by have:=p.m1;omega)
  have g3:t.gap * (c:Int)+t.gap * ((m:Int) - 1)≤t.gap * ((l.length:Int) - 1):=by
   rw [← Int.mul_add]
   exact mul_mono h.gap.1 (by have:=p.cm;omega)
  omega
 ·rw [hlen] at hj
  rw [rectsL_get t l rs hj,rectsL_get t l rs (by omega:i < (gOf t).cells.length)]
  obtain ⟨c,m,a,n,p⟩:=h.pl i (by omega)
  obtain ⟨c',m',a',n',p'⟩:=h.pl j hj
  have hm:=h.ap i j hij hj
  rw [p.qx,p.qw,p.qy,p.qh,p'.qx,p'.qw,p'.qy,p'.qh]
  have hm2:¬ (((a:Int) < a'+n'∧(a':Int) < a+n)∧(c:Int) < c'+m'∧(c':Int) < c+m):=by
   intro hh
   rw [meetsB,p.ec,p.em,p.er,p.en,p'.ec,p'.em,p'.er,p'.en] at hm
   simp at hm
   omega
  have n1:=p.n1
  have n2:=p'.n1
  have m1:=p.m1
  have m2:=p'.m1
  have e1:t.gap * (c:Int)+t.gap * ((m:Int) - 1)=t.gap * (((c+m:Nat):Int) - 1):=by rw [← Int.mul_add];congr 1;omega
  have e2:t.gap * (c':Int)+t.gap * ((m':Int) - 1)=t.gap * (((c'+m':Nat):Int) - 1):=by rw [← Int.mul_add];congr 1;omega
  rcases (by omega:a+n≤a'∨a'+n'≤a∨c+m≤c'∨c'+m'≤c) with hc | hc | hc | hc
  ·have:=sumTo_mono hrn hc;omega
  ·have:=sumTo_mono hrn hc;omega
  ·have s:=sumTo_mono hln hc
   have gg:=mul_mono h.gap.1 (a:=((c+m:Nat):Int) - 1) (b:=(c':Int)) (by omega)
   omega
  ·have s:=sumTo_mono hln hc
   have gg:=mul_mono h.gap.1 (a:=((c'+m':Nat):Int) - 1) (b:=(c:Int)) (by omega)
   omega
def areaTo (qs:List QR):Nat→Int
 | 0=>0
 | k+1=>areaTo qs k+(qs.getD k dQ).w * (qs.getD k dQ).h
def natQ (q:QR):Nat × Nat × Nat × Nat:=(q.x.toNat,q.y.toNat,q.w.toNat,q.h.toNat)
theorem listS_snoc (f:Nat × Nat × Nat × Nat→Nat):∀ (l:List (Nat × Nat × Nat × Nat)) (q),listS f (l ++ [q])=listS f l+f q
 | [],q=>by simp [listS]
 | a :: l,q=>by rw [List.cons_append,listS,listS,listS_snoc f l q];omega
theorem area_list {qs:List QR} (h:∀ k,k < qs.length→0≤(qs.getD k dQ).w∧0≤(qs.getD k dQ).h):∀ k,k≤qs.length→areaTo qs k=((listS (fun q=>q.2.2.1 * q.2.2.2) ((qs.take k).map natQ):Nat):Int)
 | 0,_=>rfl
 | k+1,hk=>by
  have hkl:k < qs.length:=by omega
  have e:qs.take (k+1)=qs.take k ++ [qs.getD k dQ]:=by
   rw [List.take_succ_eq_append_getElem hkl,show qs.getD k dQ=qs[k] by simp [List.getD,hkl]]
  obtain ⟨h1,h2⟩:=h k hkl
  rw [areaTo,area_list h k (by omega),e,List.map_append,List.map_singleton,listS_snoc]
  generalize qs.getD k dQ=q at h1 h2
  show _+q.w * q.h=_
  have:((q.w.toNat * q.h.toNat:Nat):Int)=q.w * q.h:=by rw [Int.natCast_mul,Int.toNat_of_nonneg h1,Int.toNat_of_nonneg h2]
  rw [Int.natCast_add]
  show _=_+((q.w.toNat * q.h.toNat:Nat):Int)
  rw [this]
theorem area_le {t:T} {l rs:List Int} {qs:List QR} {wide high:Int} (h:ApF t l rs qs wide high):areaTo qs qs.length≤wide * high:=by
 rw [area_list (fun k hk=>(h.box k hk).2.2) qs.length (Nat.le_refl _),List.take_length]
 have hget:∀ k,(hk:k < qs.length)→qs[k]=qs.getD k dQ:=fun k hk=>by simp [List.getD,hk]
 have hp:(qs.map natQ).Pairwise apartN:=by
  rw [List.pairwise_iff_getElem]
  intro i j hi hj hij
  rw [List.length_map] at hi hj
  rw [List.getElem_map,List.getElem_map,hget i hi,hget j hj]
  have hap:=h.apart i j hij hj
  have b1:=h.box i hi
  have b2:=h.box j hj
  unfold apartN natQ
  dsimp only
  omega
 have:=pack (W:=wide.toNat) (H:=high.toNat) hp (fun q hq=>by
  obtain ⟨p,hp,rfl⟩:=List.mem_map.1 hq
  obtain ⟨k,hk,rfl⟩:=List.mem_iff_getElem.1 hp
  have b:=h.box k hk
  rw [hget k hk]
  unfold natQ
  dsimp only
  omega)
 have hw:=h.wd
 have hh:=h.hg
 have e:((wide.toNat * high.toNat:Nat):Int)=wide * high:=by rw [Int.natCast_mul,Int.toNat_of_nonneg hw.1,Int.toNat_of_nonneg hh.1]
 omega
theorem area_bound {t:T} {l rs:List Int} {qs:List QR} {wide high:Int} (h:ApF t l rs qs wide high):∀ k,k≤qs.length→0≤areaTo qs k∧areaTo qs k≤8000000000 * (k:Int)
 | 0,_=>⟨Int.le_refl _,by simp [areaTo]⟩
 | k+1,hk=>by
  have ih:=area_bound h k (by omega)
  obtain ⟨b1,b2,b3,b4⟩:=h.box k (by omega)
  have hw:=h.wd
  have hh:=h.hg
  rw [areaTo]
  generalize qs.getD k dQ=q at b1 b2 b3 b4
  have m1:0≤q.w * q.h:=Int.mul_nonneg b3 b4
  have m2:q.w * q.h≤1000000 * 8000:=Int.mul_le_mul (by omega) (by omega) b4 (by omega)
  omega
set_option maxRecDepth 100000 in
set_option maxHeartbeats 2000000 in
theorem implWidTable (ac ar:Option Addr) (cc cr:Nat) (t:T) (hD:Drawn t) (width:Int) (w:World) {z:Nat} (hc:ColsAt w z (.slice ac t.cols.length cc) t.cols) (hr:RowsAt w z (.slice ar t.rows.length cr) t.rows) :
  Calls Tryz.prog 18 #[.agg #[.slice ac t.cols.length cc,.int .i64 t.head,.int .i64 t.foot,.slice ar t.rows.length cr,.int .i64 t.gap],.int .i64 width] w fun e w'=>e=.returned (.int .i64 (acrV (widT t width) t.gap))∧Below w.heap.size w w':=by
 obtain ⟨W0,hW0⟩:∃ W0,w.alloc (.cells #[.slice ac t.cols.length cc,.int .i64 t.head,.int .i64 t.foot,.slice ar t.rows.length cr,.int .i64 t.gap] 33)=W0:=⟨_,rfl⟩
 have K0:Below w.heap.size w W0:=by rw [← hW0];exact k_alloc (Below.refl _ _) _
 have X0:W0.heap[w.heap.size]?=some (.cells #[.slice ac t.cols.length cc,.int .i64 t.head,.int .i64 t.foot,.slice ar t.rows.length cr,.int .i64 t.gap] 33):=by rw [← hW0];exact newestB _ _
 have HX:=Hd X0
 have HK0:=Hd K0
 have HMd:=Hd (And.intro ((hc.kept K0).kept (k_drew (Below.refl _ _))) ((hr.kept K0).kept (k_drew (Below.refl _ _))))
 have HKd:=Hd (k_drew (Below.refl W0.heap.size W0))
 obtain ⟨o0,o1,o2,o3,o4⟩:=fiveO X0
 have l0:=(bL X0)
 clear hc hr K0 X0
 go_enter Tryz.func18,Tryz.ntmps18
 go_upto_region 1 with fail
 clear hW0
 go_region_with (first
  | (go_at_call 24;refine (implWidCols ac ar cc cr t hD width _ HMd.out.1 HMd.out.2).mono ?_;rintro e w1 ⟨v1,rfl,hR,hb1⟩;obtain ⟨al,cl,rfl⟩:=hR.form;have HI:=Hd hR.at;have hb1':=k_trans HKd.out hb1;obtain ⟨q0,q1,q2,q3,q4⟩:=fiveO ((hb1'.block _ l0).trans HX.out);have HB1:=Hd (k_trans HK0.out hb1');clear hR hb1 hb1')
  | (go_at_call 53;refine (implacrossAll _ (widT t width) t.gap _ HI.out).mono ?_;rintro e w2 ⟨rfl,rfl⟩))
 all_goals
  go_wp2
  go_ret
  exact ⟨rfl,HB1.out⟩
theorem totC_le:∀ cs:List C,(∀ x ∈ cs,x.s.size≤61)→totC cs≤62 * cs.length
 | [],_=>by simp [totC]
 | x :: r,h=>by
  have h1:=h x (by simp)
  have h2:=totC_le r (fun y hy=>h y (by simp [hy]))
  simp only [totC,List.length_cons]
  omega
theorem totR_le:∀ rs:List R,(∀ r ∈ rs,totC r.cells≤310)→totR rs≤311 * rs.length
 | [],_=>by simp [totR]
 | x :: r,h=>by
  have h1:=h x (by simp)
  have h2:=totR_le r (fun y hy=>h y (by simp [hy]))
  simp only [totR,List.length_cons]
  omega
theorem tot_small {t:T} (hD:Drawn t):totR t.rows≤1048576:=by
 have h1:=totR_le t.rows (fun r hr=>by
  have h2:=totC_le r.cells (fun x hx=>(hD.cells r hr x hx).1)
  obtain ⟨i,hi,rfl⟩:=List.mem_iff_getElem.1 hr
  obtain ⟨q,hq⟩:=hD.few
  have h3:=hq i
  have e:t.rows.getD i dR=t.rows[i]:=by simp [List.getD,hi]
  rw [e] at h3
  split at h3 <;> omega)
 have:=hD.rows
 omega
end Go.Proofs.YtcbibdhlkdcmiaiGreat
namespace Go.Proofs.YtcbibdhlkdcmiaiGreat
open Go.RowKit Go.BigFrame
set_option maxRecDepth 100000 in
set_option maxHeartbeats 1000000 in
theorem pwRects_any (v1 v2:Value) (qs:List QR) (w:World) {z1 z2:Nat} (h1:QsAt w z1 v1 qs) (h2:QsAt w z2 v2 qs) :
  Calls Tryz.prog 15 #[v1,v2] w fun e w'=>e=.returned (.bool true)∧Below w.heap.size w w':=by
 obtain ⟨a1,cap1,rfl,hlen⟩:=At.form h1
 obtain ⟨a2,cap2,rfl,_⟩:=At.form h2
 unfold maxLen at hlen
 have hmx:Tryz.prog.follows .mixedOrders=true:=by kernel_rfl
 have hne:((qs.length:Int) != (qs.length:Int))=false:=by simp
 have H1:=Hd h1
 have H2:=Hd h2
 clear h1 h2
 go_enter Tryz.func15,Tryz.ntmps15
 go_wp2_with fail
 go_loopw [5] (fun i W=>∃ k:Nat,k≤qs.length∧i=.int .i64 k∧Hid (Below w.heap.size w W)) (fun i _=>qs.length - (intOf i).toNat)
 case atStart=>exact ⟨0,Nat.zero_le _,rfl,Below.refl _ _⟩
 case round =>
  obtain ⟨k,hk,rfl,HB⟩:=hrel
  by_cases hlt:k < qs.length
  ·obtain ⟨b1,off1,cap1',e1,hc11,hc12,hbl1,x0,x1,x2,x3⟩:=At.get (H1.out.kept HB.out) hlt
   simp only [Value.slice.injEq,true_and] at e1
   obtain ⟨rfl,rfl⟩:=e1
   obtain ⟨b2,off2,cap2',e2,hc21,hc22,hbl2,y0,y1,y2,y3⟩:=At.get (H2.out.kept HB.out) hlt
   simp only [Value.slice.injEq,true_and] at e2
   obtain ⟨rfl,rfl⟩:=e2
   unfold maxLen at hc12 hc22
   generalize qs.getD k dQ=q at x0 x1 x2 x3 y0 y1 y2 y3
   have f0:(q.x == q.x)=true:=by simp
   have f1:(q.y == q.y)=true:=by simp
   have f2:(q.w == q.w)=true:=by simp
   have f3:(q.h == q.h)=true:=by simp
   have hne2:=bw_some wr
   have m0:=bw_cell hbl1 x0
   have m1:=bw_cell hbl1 x1
   have m2:=bw_cell hbl1 x2
   have m3:=bw_cell hbl1 x3
   have m4:=bw_cell hbl2 y0
   have m5:=bw_cell hbl2 y1
   have m6:=bw_cell hbl2 y2
   have m7:=bw_cell hbl2 y3
   clear x0 x1 x2 x3 y0 y1 y2 y3
   go_upto_region 6 with fail
   refine wp_region_quiet_below hmx (by kernel_rfl) ?_
   repeat (go_big_quiet_step (fail))
   refine wpQuiet_nil ?_
   intro W5 hw'
   obtain ⟨⟨Wx,hW5⟩,hw''⟩:=hw'
   subst hw''
   have HB5:=Hd (k_trans HB.out hW5)
   clear m0 m1 m2 m3 m4 m5 m6 m7 hne2 hW5
   go_wp2
   go_roundw
   case rel=>exact ⟨k+1,by omega,by go_num,HB5⟩
   case measure=>simp [intOf];omega
  ·go_wp2
   go_ret
   exact ⟨rfl,HB.out⟩
end Go.Proofs.YtcbibdhlkdcmiaiGreat
namespace Go.Proofs.YtcbibdhlkdcmiaiGreat
open Go.RowKit
set_option maxRecDepth 100000 in
set_option maxHeartbeats 1000000 in
theorem specGrdOf (ac ar:Option Addr) (cc cr:Nat) (t:T) (hD:Drawn t) (w:World) {z:Nat} (hc:ColsAt w z (.slice ac t.cols.length cc) t.cols) (hr:RowsAt w z (.slice ar t.rows.length cr) t.rows) :
  Calls Tryz.prog 119 #[.agg #[.slice ac t.cols.length cc,.int .i64 t.head,.int .i64 t.foot,.slice ar t.rows.length cr,.int .i64 t.gap]] w fun e w'=>∃ vg,e=.returned (.agg #[.int .i64 (gOf t).rows,.int .i64 (gOf t).cols,vg])∧OwnG w' w.heap.size vg (gOf t).cells∧Below w.heap.size w w':=by
 obtain ⟨W0,hW0⟩:∃ W0,(w.alloc (.cells #[.slice ac t.cols.length cc,.int .i64 t.head,.int .i64 t.foot,.slice ar t.rows.length cr,.int .i64 t.gap] 33)).alloc (.cells #[.int .i64 0,.int .i64 0,.slice none 0 0] 56)=W0:=⟨_,rfl⟩
 have K0:Below w.heap.size w W0:=by rw [← hW0];exact k_alloc (k_alloc (Below.refl _ _) _) _
 have hz0:W0.heap.size=w.heap.size+2:=by rw [← hW0];simp
 have T0:W0.heap[w.heap.size]?=some (.cells #[.slice ac t.cols.length cc,.int .i64 t.head,.int .i64 t.foot,.slice ar t.rows.length cr,.int .i64 t.gap] 33):=by rw [← hW0];exact (Below.heap_alloc _ _ _ (by simp)).trans (newestB _ _)
 have X0:W0.heap[w.heap.size+1]?=some (.cells #[.int .i64 0,.int .i64 0,.slice none 0 0] 56):=by
  have:=newestB (w.alloc (.cells #[.slice ac t.cols.length cc,.int .i64 t.head,.int .i64 t.foot,.slice ar t.rows.length cr,.int .i64 t.gap] 33)) (.cells #[.int .i64 0,.int .i64 0,.slice none 0 0] 56)
  rw [hW0] at this
  simpa using this
 have KO:=Hd (specTblOk ac ar cc cr t W0 (hc.kept K0) (hr.kept K0))
 have HR:=Hd hr
 obtain ⟨⟨t0,t1,t2,t3,t4⟩,_⟩:=fiveT T0
 clear hc hr
 cases htk:tblB t with
 | false =>
  rw [htk] at KO
  have hg:gOf t=⟨0,0,[]⟩:=by unfold gOf;rw [if_neg (by rw [htk];simp)]
  have HG:=Hd hg
  clear htk hg hD
  go_enter Tryz.func119,Tryz.ntmps119
  go_wp2_with fail
  refine KO.out.mono ?_
  rintro e w1 ⟨rfl,hb1⟩
  have X1:=blk_kept X0 hb1
  have K1:=k_trans K0 hb1
  obtain ⟨⟨x0,x1,x2⟩,y0,y1,y2⟩:=threeZ X1
  have HB:=Hd (((K1.setCell (p:=⟨w.heap.size+1,0,none⟩) (by show _≤w.heap.size+1;omega) (.int .i64 0)).setCell (p:=⟨w.heap.size+1,1,none⟩) (by show _≤w.heap.size+1;omega) (.int .i64 0)).setCell (p:=⟨w.heap.size+1,2,none⟩) (by show _≤w.heap.size+1;omega) (.slice none 0 0))
  clear hb1 K1 X1 KO hW0 t0 t1 t2 t3 t4
  go_wp2
  exact bodyPost_ret (v:=.agg #[.int .i64 0,.int .i64 0,.slice none 0 0]) (by simp [results,Tryz.results119,go_sem,x0,x1,x2]) rfl ⟨.slice none 0 0,by rw [HG.out],by rw [HG.out];exact ⟨rfl,.inl ⟨rfl,rfl⟩⟩,HB.out⟩
 | true =>
  rw [htk] at KO
  have hg:gOf t=⟨t.rows.length,colsOf (max 1 (t.cols.length:Int)) (gridOf t),gridOf t⟩:=by unfold gOf;rw [if_pos htk]
  have HG:=Hd hg
  have HLow:=Hd (low_of htk hD)
  clear htk hg hD
  go_enter Tryz.func119,Tryz.ntmps119
  go_wp2_with fail
  refine KO.out.mono ?_
  rintro e w1 ⟨rfl,hb1⟩
  have X1:=blk_kept X0 hb1
  have T1:=blk_kept T0 hb1
  have K1:=k_trans K0 hb1
  obtain ⟨⟨s0,s1,s2,s3,s4⟩,_⟩:=fiveT T1
  clear KO hW0 t0 t1 t2 t3 t4
  go_wp2_with fail
  refine (l3Of_any ac ar cc cr t HLow.out w1 (HR.out.kept K1)).mono ?_
  rintro e w2 ⟨vg,rfl,hO2,hb2⟩
  have X2:=blk_kept X1 hb2
  have K2:=k_trans K1 hb2
  obtain ⟨va,vq,rfl,_⟩:=row_form hO2
  obtain ⟨⟨x0,x1,x2⟩,y0,y1,y2⟩:=threeZ X2
  have h1:=setB (p:=0) X2 (.int .i64 (t.rows.length:Int))
  have h2:=setB (p:=1) h1 (.int .i64 (colsOf (max 1 (t.cols.length:Int)) (gridOf t)))
  have o1:=row_set (p:=0) hO2 X2 (by decide) (.int .i64 (t.rows.length:Int))
  have o2:=row_set (p:=1) o1 h1 (by decide) (.int .i64 (colsOf (max 1 (t.cols.length:Int)) (gridOf t)))
  have o3:=row_set (p:=2) o2 h2 (by decide) (.slice va (gridOf t).length vq)
  have hz1:w.heap.size≤w1.heap.size:=K1.size
  have HO:=Hd (row_base o3 hz1)
  have HB:=Hd (((K2.setCell (p:=⟨w.heap.size+1,0,none⟩) (by show _≤w.heap.size+1;omega) (.int .i64 (t.rows.length:Int))).setCell (p:=⟨w.heap.size+1,1,none⟩) (by show _≤w.heap.size+1;omega) (.int .i64 (colsOf (max 1 (t.cols.length:Int)) (gridOf t)))).setCell (p:=⟨w.heap.size+1,2,none⟩) (by show _≤w.heap.size+1;omega) (.slice va (gridOf t).length vq))
  clear h1 h2 o1 o2 o3 hO2 hb2 X2 K2 s0 s1 s2 s3 s4 X1 T1 K1 hb1 X0 T0
  generalize hC:colsOf (max 1 (t.cols.length:Int)) (gridOf t)=C at HG HO HB ⊢
  clear hC
  go_wp2
  exact bodyPost_ret (v:=.agg #[.int .i64 (t.rows.length:Int),.int .i64 C,.slice va (gridOf t).length vq]) (by simp [results,Tryz.results119,go_sem,x0,x1,x2]) rfl ⟨_,by rw [HG.out],by rw [HG.out];exact HO.out,HB.out⟩
structure AfJ (w:World) (r B tb base:Nat) (U:Value) (nn:Nat) (xs:List Value) (hd ft:Int) (vr:Value) (gp:Int) (L:Nat→Bool) (W:World) (v21 v22 v23 v24 v25 v26 v27 v28:Value):Prop where
 f0:L 0=true→v21=.pointer (some ⟨tb,0,none⟩)
 f1:L 1=true→v22=U
 f2:L 2=true→v23=.pointer (some ⟨r,0,none⟩)
 f3:L 3=true→∃ x:Int,v24=.int .i64 x
 f4:L 4=true→∃ x:Int,v25=.agg #[.int .i64 1,.int .i64 x]
 f5:L 5=true→∃ (g:Nat) (x:Int),v26=.slice (some ⟨g,0,none⟩) 1 1∧(L 6=false→W.heap[g]?=some (.cells #[.int .i64 1,.int .i64 x] 90))
 f7:L 7=true→v28=.pointer (some ⟨tb,0,none⟩)
 rd:Rd W r (B+if L 3=true then 1 else 0)
 bk:Bk r w W
 own:L 6=false→W.ownsRow base 90 2 U nn xs
 ownA:L 6=true→∃ x:Int,W.ownsRow base 90 2 v27 (nn+1) (xs ++ [.int .i64 1,.int .i64 x])
 tb0:L 8=false→W.heap[tb]?=some (.cells #[U,.int .i64 hd,.int .i64 ft,vr,.int .i64 gp] 33)
 tb1:L 8=true→W.heap[tb]?=some (.cells #[v27,.int .i64 hd,.int .i64 ft,vr,.int .i64 gp] 33)
theorem Since.st5a {w:World} {z g:Nat} (hg:g < z) (y0 y1 y2 y3 y4:Value):Since z w (st5 w g y0 y1 y2 y3 y4):=⟨(st5_bk w g y0 y1 y2 y3 y4).size,fun k h1 h2=>(st5_bk w g y0 y1 y2 y3 y4).block k h2 (by omega)⟩
theorem field_cols (a b c:Value) (W:World):(Instr.field 56 (.agg #[a,b,c]) 1).run Tryz.prog W=.ok b W:=by kernel_rfl
set_option maxRecDepth 100000 in
set_option maxHeartbeats 4000000 in
theorem l20AllFixed_any (r B:Nat) (ac ar:Option Addr) (cc cr:Nat) (t:T) (hD:Drawn t) {z:Nat} (w:World) (h:Rd w r B) (hB:B≤800000) (hc:ColsAt w z (.slice ac t.cols.length cc) t.cols) (hr:RowsAt w z (.slice ar t.rows.length cr) t.rows) :
  Calls Tryz.prog 82 #[.pointer (some ⟨r,0,none⟩),.agg #[.slice ac t.cols.length cc,.int .i64 t.head,.int .i64 t.foot,.slice ar t.rows.length cr,.int .i64 t.gap]] w fun e w'=>∃ (ad:Option Addr) (cd:Nat) (ps:List (Int × Int)),e=.returned (.agg #[.slice ad ps.length cd,.int .i64 t.head,.int .i64 t.foot,.slice ar t.rows.length cr,.int .i64 t.gap])∧ps.length≤8∧ColsAt w' w.heap.size (.slice ad ps.length cd) ps∧Rd w' r (B+8)∧Bk r w w':=by
 obtain ⟨i0,hi0,hz0,hz1,hz2⟩:=info_parts infoCol
 have hfl:=field_cols
 have hlt:=h.lt
 have K2:=k_alloc (k_alloc (Below.refl w.heap.size w) (.cells #[.slice ac t.cols.length cc,.int .i64 t.head,.int .i64 t.foot,.slice ar t.rows.length cr,.int .i64 t.gap] 33)) (.cells #[.slice none 0 0,.int .i64 0,.int .i64 0,.slice none 0 0,.int .i64 0] 33)
 have X0:=more (newest w (.cells #[.slice ac t.cols.length cc,.int .i64 t.head,.int .i64 t.foot,.slice ar t.rows.length cr,.int .i64 t.gap] 33)) (.cells #[.slice none 0 0,.int .i64 0,.int .i64 0,.slice none 0 0,.int .i64 0] 33)
 have X1:=newest1 w (.cells #[.slice ac t.cols.length cc,.int .i64 t.head,.int .i64 t.foot,.slice ar t.rows.length cr,.int .i64 t.gap] 33) (.cells #[.slice none 0 0,.int .i64 0,.int .i64 0,.slice none 0 0,.int .i64 0] 33)
 have hs2:((w.alloc (.cells #[.slice ac t.cols.length cc,.int .i64 t.head,.int .i64 t.foot,.slice ar t.rows.length cr,.int .i64 t.gap] 33)).alloc (.cells #[.slice none 0 0,.int .i64 0,.int .i64 0,.slice none 0 0,.int .i64 0] 33)).heap.size=w.heap.size+2:=by simp
 have HR:=Hd (h.kept K2)
 have HT:=Hd (And.intro (hc.kept K2) (hr.kept K2))
 have HK2:=Hd K2
 clear h hc hr K2
 go_enter Tryz.func82,Tryz.ntmps82
 go_upto_region 1 with fail
 generalize (w.alloc (.cells #[.slice ac t.cols.length cc,.int .i64 t.head,.int .i64 t.foot,.slice ar t.rows.length cr,.int .i64 t.gap] 33)).alloc (.cells #[.slice none 0 0,.int .i64 0,.int .i64 0,.slice none 0 0,.int .i64 0] 33)=W2 at X0 X1 hs2 HR HT HK2 ⊢
 obtain ⟨⟨x0,x1,x2,x3,x4⟩,_⟩:=fiveZ X0
 go_wp2_with fail
 refine (specGrdOf ac ar cc cr t hD _ HT.out.1 HT.out.2).mono ?_
 rintro e w3 ⟨vg,rfl,_,hb3⟩
 have hz3:=hb3.size
 have Y0:=(hb3.block _ (bL X0)).trans X0
 have Y1:=(hb3.block _ (bL X1)).trans X1
 have HR3:=Hd (HR.out.kept hb3)
 have HK3:=Hd (k_trans HK2.out hb3)
 generalize (gOf t).cols=N
 clear hb3 x0 x1 x2 x3 x4 X0 X1 HR HT HK2
 obtain ⟨⟨x0,_,_,_,_⟩,y0,_⟩:=fiveZ Y0
 have hl0:w.heap.size < w3.heap.size:=by omega
 have hl1:w.heap.size+1 < w3.heap.size:=by omega
 clear hs2
 go_upto_region 3 with fail
 have Y0':((w3.setCell ⟨w.heap.size,0,none⟩ (.slice (some ⟨w3.heap.size,0,none⟩) 0 0)).alloc (.cells #[] 90)).heap[w.heap.size]?=some (.cells #[.slice (some ⟨w3.heap.size,0,none⟩) 0 0,.int .i64 t.head,.int .i64 t.foot,.slice ar t.rows.length cr,.int .i64 t.gap] 33):=by
  have h1:=setB Y0 (p:=0) (.slice (some ⟨w3.heap.size,0,none⟩) 0 0)
  have h2:=more h1 (.cells #[] 90)
  simpa using h2
 have Y1':((w3.setCell ⟨w.heap.size,0,none⟩ (.slice (some ⟨w3.heap.size,0,none⟩) 0 0)).alloc (.cells #[] 90)).heap[w.heap.size+1]?=some (.cells #[.slice none 0 0,.int .i64 0,.int .i64 0,.slice none 0 0,.int .i64 0] 33):=more (other Y1 (by dsimp only;omega) _) _
 have HOw:=Hd (World.ownsRow_made (base:=w.heap.size+2) (e:=90) (size:=2) (w3.setCell ⟨w.heap.size,0,none⟩ (.slice (some ⟨w3.heap.size,0,none⟩) 0 0)) #[] 0 (by rw [sizeSet];omega) (Nat.zero_le _) rfl)
 rw [sizeSet] at HOw
 have HBk:=Hd (((Bk.of_below (r:=r) HK3.out).set (p:=⟨w.heap.size,0,none⟩) (.inr (Nat.le_refl _)) (.slice (some ⟨w3.heap.size,0,none⟩) 0 0)).alloc (.cells #[] 90))
 have HRd:=Hd ((HR3.out.set (p:=⟨w.heap.size,0,none⟩) (by dsimp only;omega) (.slice (some ⟨w3.heap.size,0,none⟩) 0 0)).alloc (.cells #[] 90))
 have HY:=Hd (And.intro Y0' Y1')
 clear Y0' Y1' Y0 Y1 x0 y0 HR3 HK3
 generalize (w3.setCell ⟨w.heap.size,0,none⟩ (.slice (some ⟨w3.heap.size,0,none⟩) 0 0)).alloc (.cells #[] 90)=W4 at HOw HBk HRd HY ⊢
 generalize Value.slice (some ⟨w3.heap.size,0,none⟩) 0 0=U0 at HOw HY ⊢
 go_wp2_with fail
 go_loopw [6] (fun o W=>∃ (k:Nat) (U:Value) (ps:List (Int × Int)),o=.int .i64 k∧k≤8∧ps.length=k∧Hid (OwnCol W (w.heap.size+2) U ps)∧Hid (Rd W r (B+k))∧Hid (Bk r w W)∧Hid (W.heap[w.heap.size]?=some (.cells #[U,.int .i64 t.head,.int .i64 t.foot,.slice ar t.rows.length cr,.int .i64 t.gap] 33))∧Hid (W.heap[w.heap.size+1]?=some (.cells #[.slice none 0 0,.int .i64 0,.int .i64 0,.slice none 0 0,.int .i64 0] 33))) (fun o _=>8 - (intOf o).toNat)
 case atStart=>exact ⟨0,U0,[],rfl,by omega,rfl,HOw,HRd,HBk,HY.out.1,HY.out.2⟩
 case round =>
  clear HOw HRd HBk HY
  obtain ⟨k,U,ps,rfl,hk,hpl,HO,HRd,HBk,HT,HZ⟩:=hrel
  have Hpl:=Hd hpl
  have hps:ps.length≤8:=by omega
  clear hpl
  by_cases hgo:(k:Int) < N∧(k:Int) < 8
  case pos =>
   obtain ⟨hg1,hg2⟩:=hgo
   go_upto_region 6 with fail
   have hrb:r < w.heap.size+2:=by omega
   have hwb:w.heap.size≤w.heap.size+2:=by omega
   have htr:r < w.heap.size:=hlt
   have htn:w.heap.size≤w.heap.size:=Nat.le_refl _
   have htb:w.heap.size ≠ r:=by omega
   have hbz:w.heap.size+2≤wr.heap.size:=by have:=(bL HZ.out);omega
   refine wp_region_inv2 (fun L act W=>∃ v21 v22 v23 v24 v25 v26 v27 v28:Value,act=⟨#[.pointer (some ⟨r,0,none⟩),.agg #[.slice ac t.cols.length cc,.int .i64 t.head,.int .i64 t.foot,.slice ar t.rows.length cr,.int .i64 t.gap],undef,.pointer (some ⟨w.heap.size,0,none⟩),.pointer (some ⟨w.heap.size+1,0,none⟩),.int .i64 N,.int .i64 (k:Int),.agg #[.slice ac t.cols.length cc,.int .i64 t.head,.int .i64 t.foot,.slice ar t.rows.length cr,.int .i64 t.gap],.agg #[.int .i64 (gOf t).rows,.int .i64 N,vg],.int .i64 N,U0,.pointer (some ⟨w.heap.size,0,none⟩),.int .i64 (k:Int),.int .i64 N,.bool true,.bool true,.int .i64 (k:Int),.bool true,.bool true,u19,u20,v21,v22,v23,v24,v25,v26,v27,v28,undef],[]⟩∧wr.heap.size≤W.heap.size∧W.heap[w.heap.size+1]?=some (.cells #[.slice none 0 0,.int .i64 0,.int .i64 0,.slice none 0 0,.int .i64 0] 33)∧AfJ w r (B+k) w.heap.size (w.heap.size+2) U ps.length (ps.flatMap colVs) t.head t.foot (.slice ar t.rows.length cr) t.gap L W v21 v22 v23 v24 v25 v26 v27 v28) (by kernel_rfl) (by kernel_rfl) ?hs ?hd ?h0
   case h0=>exact ⟨_,_,_,_,_,_,_,_,rfl,Nat.le_refl _,HZ.out,⟨(fun h=>by cases h),(fun h=>by cases h),(fun h=>by cases h),(fun h=>by cases h),(fun h=>by cases h),(fun h=>by cases h),(fun h=>by cases h),by rw [if_neg (by simp)];exact HRd.out.drew,HBk.out.drew,fun _=>HO.out,(fun h=>by cases h),fun _=>HT.out,(fun h=>by cases h)⟩⟩
   case hd =>
    intro L act W hJ hall
    obtain ⟨v21,v22,v23,v24,v25,v26,v27,v28,ha,_,hZ,J⟩:=hJ
    subst ha
    obtain ⟨x,hO⟩:=J.ownA (hall 6 (by decide))
    have hT:=J.tb1 (hall 8 (by decide))
    have hR:=J.rd
    rw [if_pos (hall 3 (by decide))] at hR
    have HO5:Hid (OwnCol W (w.heap.size+2) v27 (ps ++ [(1,x)])):=by unfold OwnCol;rw [Hid,List.length_append,List.flatMap_append];exact hO
    have HT5:=Hd hT
    have HR5:=Hd hR
    have HB5:=Hd J.bk
    have HZ5:=Hd hZ
    clear J hall hO hT hR hZ
    go_wp2
    go_roundw
    case rel=>exact ⟨k+1,v27,ps ++ [(1,x)],by go_num,by omega,by rw [List.length_append,Hpl.out];rfl,HO5,HR5,HB5,HT5,HZ5⟩
    case measure=>simp [intOf];omega
   case hs =>
    intro L act W i o hJ hcl ho hLi haft K hK0
    obtain ⟨v21,v22,v23,v24,v25,v26,v27,v28,ha,hsW,hZ,J⟩:=hJ
    subst ha
    have hbs:w.heap.size+2≤W.heap.size:=Nat.le_trans hbz hsW
    have hi':i < 9:=by
     have:=(bL ho)
     simpa using this
    rcases (by omega:i=0∨i=1∨i=2∨i=3∨i=4∨i=5∨i=6∨i=7∨i=8) with rfl | rfl | rfl | rfl | rfl | rfl | rfl | rfl | rfl
    all_goals
     simp only [List.getElem?_toArray,List.getElem?_cons_zero,List.getElem?_cons_succ,Option.some.injEq] at ho
     subst ho
     clear hi'
    ·skip
     go_simp
     exact hK0 _ _ ⟨_,_,_,_,_,_,_,_,rfl,hsW,(hZ),⟨(fun _=>rfl),(uq J.f1),(uq J.f2),(uq J.f3),(uq J.f4),(fun h=>by obtain ⟨g,x,e,c⟩:=J.f5 (un h);exact ⟨g,x,e,fun h2=>c (by rwa [upd_ne rfl] at h2)⟩),(uq J.f7),(by rw [upd_ne rfl];exact J.rd),(J.bk),(uq J.own),(uq J.ownA),(uq J.tb0),(uq J.tb1)⟩⟩
    ·skip
     obtain rfl:=J.f0 (haft ⟨0,.data⟩ (by simp) rfl)
     have hL8:L 8=false:=hcl 8 6 (by kernel_rfl) (hcl 6 1 (by kernel_rfl) hLi)
     have hc:=cellB (p:=0) (J.tb0 hL8)
     go_simp
     exact hK0 _ _ ⟨_,_,_,_,_,_,_,_,rfl,hsW,(hZ),⟨(uq J.f0),(fun _=>rfl),(uq J.f2),(uq J.f3),(uq J.f4),(fun h=>by obtain ⟨g,x,e,c⟩:=J.f5 (un h);exact ⟨g,x,e,fun h2=>c (by rwa [upd_ne rfl] at h2)⟩),(uq J.f7),(by rw [upd_ne rfl];exact J.rd),(J.bk),(uq J.own),(uq J.ownA),(uq J.tb0),(uq J.tb1)⟩⟩
    ·skip
     go_simp
     exact hK0 _ _ ⟨_,_,_,_,_,_,_,_,rfl,hsW,(hZ),⟨(uq J.f0),(uq J.f1),(fun _=>rfl),(uq J.f3),(uq J.f4),(fun h=>by obtain ⟨g,x,e,c⟩:=J.f5 (un h);exact ⟨g,x,e,fun h2=>c (by rwa [upd_ne rfl] at h2)⟩),(uq J.f7),(by rw [upd_ne rfl];exact J.rd),(J.bk),(uq J.own),(uq J.ownA),(uq J.tb0),(uq J.tb1)⟩⟩
    ·skip
     obtain rfl:=J.f2 (haft ⟨2,.data⟩ (by simp) rfl)
     have hL5:L 5=false:=hcl 5 4 (by kernel_rfl) (hcl 4 3 (by kernel_rfl) hLi)
     have hL6:L 6=false:=hcl 6 5 (by kernel_rfl) hL5
     have hL8:L 8=false:=hcl 8 6 (by kernel_rfl) hL6
     have hRd:=J.rd
     rw [if_neg (by rw [hLi];simp)] at hRd
     go_simp
     go_wp2_with (go_at_call 65;refine (pick_any r _ _ _ hRd (by omega)).mono ?_;rintro e W2 ⟨kk,rfl,_,hR,hb⟩)
     exact ⟨_,_,_,_,_,_,_,_,rfl,(Nat.le_trans hsW hb.size),((hb.block _ (bL hZ) (by omega)).trans hZ),⟨(uq J.f0),(uq J.f1),(uq J.f2),(fun _=>⟨kk,rfl⟩),(uq J.f4),(uf hL5),(uq J.f7),(by rw [upd_self,if_pos rfl];exact hR),(J.bk.trans hb),(fun _=>row_bk (J.own hL6) hb hrb),(uf hL6),(fun _=>(hb.block w.heap.size (Array.getElem?_eq_some_iff.1 (J.tb0 hL8)).1 htb).trans (J.tb0 hL8)),(uf hL8)⟩⟩
    ·skip
     obtain ⟨x,rfl⟩:=J.f3 (haft ⟨3,.data⟩ (by simp) rfl)
     go_simp
     exact hK0 _ _ ⟨_,_,_,_,_,_,_,_,rfl,hsW,(hZ),⟨(uq J.f0),(uq J.f1),(uq J.f2),(uq J.f3),(fun _=>⟨x,rfl⟩),(fun h=>by obtain ⟨g,x,e,c⟩:=J.f5 (un h);exact ⟨g,x,e,fun h2=>c (by rwa [upd_ne rfl] at h2)⟩),(uq J.f7),(by rw [upd_ne rfl];exact J.rd),(J.bk),(uq J.own),(uq J.ownA),(uq J.tb0),(uq J.tb1)⟩⟩
    ·skip
     obtain ⟨x,rfl⟩:=J.f4 (haft ⟨4,.data⟩ (by simp) rfl)
     go_simp
     exact hK0 _ _ ⟨_,_,_,_,_,_,_,_,rfl,(by simp;omega),((Below.heap_alloc _ _ _ (bL hZ)).trans hZ),⟨(uq J.f0),(uq J.f1),(uq J.f2),(uq J.f3),(uq J.f4),(fun _=>⟨W.heap.size,x,rfl,fun _=>newestB _ _⟩),(uq J.f7),(by rw [upd_ne rfl];exact J.rd.alloc _),(J.bk.alloc _),(fun h=>(J.own (un h)).alloc _),(fun h=>by obtain ⟨y,hO⟩:=J.ownA (un h);exact ⟨y,hO.alloc _⟩),(fun h=>(Below.heap_alloc _ _ _ (Array.getElem?_eq_some_iff.1 (J.tb0 (un h))).1).trans (J.tb0 (un h))),(fun h=>(Below.heap_alloc _ _ _ (Array.getElem?_eq_some_iff.1 (J.tb1 (un h))).1).trans (J.tb1 (un h)))⟩⟩
    ·skip
     obtain rfl:=J.f1 (haft ⟨1,.data⟩ (by simp) rfl)
     obtain ⟨g,x,rfl,hg⟩:=J.f5 (haft ⟨5,.data⟩ (by simp) rfl)
     have hL8:L 8=false:=hcl 8 6 (by kernel_rfl) hLi
     rw [if_pos (by rfl)]
     refine wp_append_own _ (.tmp 22) (.tmp 26) 30 rfl (w.heap.size+2) 90 i0 _ 2 16 Tryz.underlying30 hi0 hz0 hz1 hz2 rfl (by decide) _ ps.length (ps.flatMap colVs) rfl (J.own hLi) ⟨g,0,none⟩ 1 1 [.int .i64 1,.int .i64 x] rfl rfl (news_at (hg hLi)) (by simp [Value.oneCell']) (by unfold maxLen;omega) (by omega) hbs ?_
     intro v' W2 hown2 hg2 _
     exact hK0 _ _ ⟨_,_,_,_,_,_,_,_,rfl,(Nat.le_trans hsW hg2.size),(blk_grown hZ hg2 (fun e=>by have:=((J.own hLi).lt _ e.symm).1;omega)),⟨(uq J.f0),(uq J.f1),(uq J.f2),(uq J.f3),(uq J.f4),(fun h=>⟨g,x,rfl,fun h2=>by rw [upd_self] at h2;cases h2⟩),(uq J.f7),(by rw [upd_ne rfl];exact J.rd.grown hg2 (fun q hq=>Nat.lt_of_lt_of_le hrb ((J.own hLi).lt q hq).1)),(J.bk.grown hg2 (fun q hq=>Nat.le_trans hwb ((J.own hLi).lt q hq).1)),(fun h=>by rw [upd_self] at h;cases h),(fun _=>⟨x,hown2⟩),(fun _=>blk_grown (J.tb0 hL8) hg2 (ne_of_own (row_ne_block (J.own hLi) (J.tb0 hL8) (by decide)))),(uf hL8)⟩⟩
    ·skip
     go_simp
     exact hK0 _ _ ⟨_,_,_,_,_,_,_,_,rfl,hsW,(hZ),⟨(uq J.f0),(uq J.f1),(uq J.f2),(uq J.f3),(uq J.f4),(fun h=>by obtain ⟨g,x,e,c⟩:=J.f5 (un h);exact ⟨g,x,e,fun h2=>c (by rwa [upd_ne rfl] at h2)⟩),(fun _=>rfl),(by rw [upd_ne rfl];exact J.rd),(J.bk),(uq J.own),(uq J.ownA),(uq J.tb0),(uq J.tb1)⟩⟩
    ·skip
     have hTop:L 6=true:=(haft ⟨6,.data⟩ (by simp) rfl)
     obtain ⟨y,hO⟩:=J.ownA hTop
     obtain ⟨aa,cc,rfl,_⟩:=row_form hO
     obtain rfl:=J.f7 (haft ⟨7,.data⟩ (by simp) rfl)
     have hc:=cellB (p:=0) (J.tb0 hLi)
     have hf:W.frozen? ⟨w.heap.size,0,none⟩=false:=freeB (J.tb0 hLi)
     go_simp
     exact hK0 _ _ ⟨_,_,_,_,_,_,_,_,rfl,(by rw [sizeSet];exact hsW),((Below.heap_setCell _ _ _ _ (by dsimp only;omega)).trans hZ),⟨(uq J.f0),(uq J.f1),(uq J.f2),(uq J.f3),(uq J.f4),(fun h=>by obtain ⟨g,x,e,_⟩:=J.f5 (un h);exact ⟨g,x,e,fun h2=>by rw [upd_ne rfl,hTop] at h2;cases h2⟩),(uq J.f7),(by rw [upd_ne rfl];exact J.rd.set (p:=⟨w.heap.size,0,none⟩) htr _),(J.bk.set (p:=⟨w.heap.size,0,none⟩) (.inr htn) _),(fun h=>by rw [upd_ne rfl,hTop] at h;cases h),(fun _=>⟨y,row_set (p:=0) hO (J.tb0 hLi) (by decide) _⟩),(fun h=>by rw [upd_self] at h;cases h),(fun _=>(setB (J.tb0 hLi) (p:=0) _).trans (by simp))⟩⟩
  case neg =>
   have HF:=Hd hgo
   have htz:w.heap.size < wr.heap.size:=(bL HT.out)
   obtain ⟨aa,cq,rfl,_⟩:=row_form HO.out
   obtain ⟨⟨d0,d1,d2,d3,d4⟩,_⟩:=fiveZ HT.out
   obtain ⟨⟨x0,x1,x2,x3,x4⟩,y0,y1,y2,y3,y4⟩:=fiveZ HZ.out
   have HC5:=Hd ((HO.out.at).since (Since.st5a (z:=w.heap.size+2) (g:=w.heap.size+1) (by omega) (.slice aa ps.length cq) (.int .i64 t.head) (.int .i64 t.foot) (.slice ar t.rows.length cr) (.int .i64 t.gap)))
   have HB5:=Hd (HBk.out.via (st5_bk wr (w.heap.size+1) (.slice aa ps.length cq) (.int .i64 t.head) (.int .i64 t.foot) (.slice ar t.rows.length cr) (.int .i64 t.gap)) (by omega))
   have HR5:Hid (Rd (st5 wr (w.heap.size+1) (.slice aa ps.length cq) (.int .i64 t.head) (.int .i64 t.foot) (.slice ar t.rows.length cr) (.int .i64 t.gap)) r (B+8)):=(HRd.out.keep (fun q hq=>(st5_bk _ _ _ _ _ _ _).block q (by omega) (by omega))).mono (by omega)
   clear HO HRd HBk HT HZ
   by_cases h1:(k:Int) < N
   ·have h2:¬ (k:Int) < 8:=fun h=>HF.out ⟨h1,h⟩
    go_wp2
    exact bodyPost_ret (v:=.agg #[.slice aa ps.length cq,.int .i64 t.head,.int .i64 t.foot,.slice ar t.rows.length cr,.int .i64 t.gap]) (by simp [results,Tryz.results82,go_sem,x0,x1,x2,x3,x4]) rfl ⟨aa,cq,ps,rfl,hps,HC5.out.base (by omega),HR5.out,HB5.out⟩
   ·go_wp2
    exact bodyPost_ret (v:=.agg #[.slice aa ps.length cq,.int .i64 t.head,.int .i64 t.foot,.slice ar t.rows.length cr,.int .i64 t.gap]) (by simp [results,Tryz.results82,go_sem,x0,x1,x2,x3,x4]) rfl ⟨aa,cq,ps,rfl,hps,HC5.out.base (by omega),HR5.out,HB5.out⟩
end Go.Proofs.YtcbibdhlkdcmiaiGreat
