/-
  PROVED HERE: the model's l10Rect: where a cell is, by how wide columns and how high rows are; nothing that was in memory is turned. Also: 4 more texts of the same proof.
-/
import Derived.Test.YtcbibdhlkdcmiaiGreatC36
import Derived.Test.YtcbibdhlkdcmiaiGreatC39
import Derived.Test.YtcbibdhlkdcmiaiGreatC31
import Derived.Test.YtcbibdhlkdcmiaiGreatC25
import Derived.Test.YtcbibdhlkdcmiaiGreatC40
import Derived.Test.YtcbibdhlkdcmiaiGreatC16
namespace Go.Proofs.YtcbibdhlkdcmiaiGreat
open Go.RowKit Go.BigFrame
theorem fourF {w:World} {g:Nat} {x0 x1 x2 x3:Value} {t:TypeId} (h:w.heap[g]?=some (.cells #[x0,x1,x2,x3] t)) :
  (w.cell? ⟨g,0,none⟩=some x0∧w.cell? ⟨g,1,none⟩=some x1∧w.cell? ⟨g,2,none⟩=some x2∧w.cell? ⟨g,3,none⟩=some x3)∧∀ p,w.frozen? ⟨g,p,none⟩=false :=
 ⟨⟨cellB h,cellB h,cellB h,cellB h⟩,fun _=>freeB h⟩
theorem sub_sum {l:List Int} (a m:Nat):(subL l a m).sum=sumTo l (a+m) - sumTo l a:=by
 rw [sumTo,sumTo,List.take_add,List.sum_append,subL]
 omega
theorem at_rows {l:List Int} (h:∀ x ∈ l,0≤x∧x≤1000) (hl:l.length≤88) {a:Nat} (ha:a≤l.length):atV l 0 (a:Int)=sumTo l a:=by
 have hs:=sumTo_small h a
 unfold atV
 rw [aheadN_nat l ha,Int.zero_mul,Int.add_zero,W_small (by omega)]
theorem small_wt {l:List Int} (h:∀ x ∈ l,0≤x∧x≤1000):l.all wtB=true:=by
 rw [List.all_eq_true]
 intro x hx
 have:=h x hx
 unfold wtB
 exact decide_eq_true (by omega)
set_option maxRecDepth 100000 in
set_option maxHeartbeats 4000000 in
theorem specl10Rect (ac ar al:Option Addr) (cc cr cl:Nat) (t:T) (a m:Nat) (xc xs xi:Int) (hxo:GOk ⟨(a:Int),xc,(m:Int),xs,xi⟩) (l rs:List Int) (hl1:l.length≤1048576) (g cap:Nat) (hs:∀ x ∈ rs,0≤x∧x≤1000) (hl8:rs.length≤8) (hm:1≤m) (ham:a+m≤rs.length) (w:World) {B D:Nat} (hI:IntsAt w (.slice al l.length cl) l) (hR:RowI w B D (.slice (some ⟨g,0,none⟩) rs.length cap) rs) :
  Calls Tryz.prog 50 #[.agg #[.slice ac t.cols.length cc,.int .i64 t.head,.int .i64 t.foot,.slice ar t.rows.length cr,.int .i64 t.gap],.agg #[.int .i64 (a:Int),.int .i64 xc,.int .i64 (m:Int),.int .i64 xs,.int .i64 xi],.slice al l.length cl,.slice (some ⟨g,0,none⟩) rs.length cap] w fun e w'=>e=.returned (.agg #[.int .i64 (rectOf t l rs ⟨(a:Int),xc,(m:Int),xs,xi⟩).x,.int .i64 (rectOf t l rs ⟨(a:Int),xc,(m:Int),xs,xi⟩).y,.int .i64 (rectOf t l rs ⟨(a:Int),xc,(m:Int),xs,xi⟩).w,.int .i64 (rectOf t l rs ⟨(a:Int),xc,(m:Int),xs,xi⟩).h])∧Below w.heap.size w w':=by
 have hmx:Tryz.prog.follows .mixedOrders=true:=by kernel_rfl
 have hst:=sumTo_small hs
 have ey:(rectOf t l rs ⟨(a:Int),xc,(m:Int),xs,xi⟩).y=(rs.take a).sum:=at_rows hs (by omega) (by omega)
 have eh:(rectOf t l rs ⟨(a:Int),xc,(m:Int),xs,xi⟩).h=(subL rs a m).sum:=by
  rw [sub_sum]
  exact high_span (x:=⟨(a:Int),xc,(m:Int),xs,xi⟩) rfl rfl hm ham (by have:=hst (a+m);have:=hst a;omega)
 rw [ey,eh]
 clear ey eh
 have hcap:rs.length≤cap∧cap≤maxLen:=by
  obtain ⟨g',cap',e,_,_,_,h1,h2,_⟩:=hR.get (i:=0) (by omega)
  simp only [Value.slice.injEq,Option.some.injEq,Addr.mk.injEq,and_true,true_and] at e
  omega
 unfold maxLen at hcap
 obtain ⟨W0,hW0⟩:∃ W0,((w.alloc (.cells #[.slice ac t.cols.length cc,.int .i64 t.head,.int .i64 t.foot,.slice ar t.rows.length cr,.int .i64 t.gap] 33)).alloc (.cells #[.int .i64 (a:Int),.int .i64 xc,.int .i64 (m:Int),.int .i64 xs,.int .i64 xi] 59)).alloc (.cells #[.int .i64 0,.int .i64 0,.int .i64 0,.int .i64 0] 50)=W0:=⟨_,rfl⟩
 have hs0:W0.heap.size=w.heap.size+3:=by rw [← hW0];simp
 have K0:Below w.heap.size w W0:=by rw [← hW0];exact k_alloc (k_alloc (k_alloc (Below.refl _ _) _) _) _
 have X0:W0.heap[w.heap.size]?=some (.cells #[.slice ac t.cols.length cc,.int .i64 t.head,.int .i64 t.foot,.slice ar t.rows.length cr,.int .i64 t.gap] 33):=by
  rw [← hW0]
  exact (Below.heap_alloc _ _ _ (by simp;omega)).trans ((Below.heap_alloc _ _ _ (by simp)).trans (newestB _ _))
 have X1:W0.heap[w.heap.size+1]?=some (.cells #[.int .i64 (a:Int),.int .i64 xc,.int .i64 (m:Int),.int .i64 xs,.int .i64 xi] 59):=by
  rw [← hW0]
  refine (Below.heap_alloc _ _ _ (by simp)).trans ?_
  have:=newestB (w.alloc (.cells #[.slice ac t.cols.length cc,.int .i64 t.head,.int .i64 t.foot,.slice ar t.rows.length cr,.int .i64 t.gap] 33)) (.cells #[.int .i64 (a:Int),.int .i64 xc,.int .i64 (m:Int),.int .i64 xs,.int .i64 xi] 59)
  simpa using this
 have X2:W0.heap[w.heap.size+1+1]?=some (.cells #[.int .i64 0,.int .i64 0,.int .i64 0,.int .i64 0] 50):=by
  rw [← hW0]
  have:=newestB ((w.alloc (.cells #[.slice ac t.cols.length cc,.int .i64 t.head,.int .i64 t.foot,.slice ar t.rows.length cr,.int .i64 t.gap] 33)).alloc (.cells #[.int .i64 (a:Int),.int .i64 xc,.int .i64 (m:Int),.int .i64 xs,.int .i64 xi] 59)) (.cells #[.int .i64 0,.int .i64 0,.int .i64 0,.int .i64 0] 50)
  simpa using this
 have HI:=Hd (hI.kept K0)
 have HR:=Hd (hR.kept (w':=W0) (fun j h0 _ _=>K0.block j h0))
 have HX2:=Hd X2
 have HK0:=Hd K0
 have hne:=bw_some W0
 have hl0:w.heap.size < W0.heap.size:=by omega
 have hl1':w.heap.size+1 < W0.heap.size:=by omega
 have m0:=bw_cell (a:=⟨w.heap.size,4,none⟩) hl0 (cellB (p:=4) X0)
 have m1:=bw_cell (a:=⟨w.heap.size+1,0,none⟩) hl1' (cellB (p:=0) X1)
 have m2:=bw_cell (a:=⟨w.heap.size+1,1,none⟩) hl1' (cellB (p:=1) X1)
 have m3:=bw_cell (a:=⟨w.heap.size+1,2,none⟩) hl1' (cellB (p:=2) X1)
 have m4:=bw_cell (a:=⟨w.heap.size+1,3,none⟩) hl1' (cellB (p:=3) X1)
 have m5:=bw_cell (a:=⟨w.heap.size+1,4,none⟩) hl1' (cellB (p:=4) X1)
 have KX:=Hd (fun (p:BW W0)=>bw_same (specWidAt _ l t.gap xc p.u (HI.out.kept p.h)))
 have KW:=Hd (fun (p:BW W0)=>bw_of (specWidCell _ l hl1 t.gap ⟨(a:Int),xc,(m:Int),xs,xi⟩ hxo p.u (HI.out.kept p.h)))
 have HT:=Hd (HR.out.at.take (m:=a) (by omega))
 have HU:=Hd (HR.out.sub0 (c:=a) (m:=m) ham)
 have KY:=Hd (fun (p:BW W0)=>bw_same (specl1Sum_any _ (rs.take a) (by rw [List.length_take];omega) (small_wt (fun x hx=>hs x (List.mem_of_mem_take hx))) p.u (HT.out.kept p.h)))
 have KZ:=Hd (fun (p:BW W0)=>bw_same (specl1Sum_any _ (subL rs a m) (by rw [subL_len ham];omega) (small_wt (fun x hx=>hs x (subL_mem hx))) p.u (HU.out.kept p.h)))
 have eX:(rectOf t l rs ⟨(a:Int),xc,(m:Int),xs,xi⟩).x=atV l t.gap xc:=rfl
 have eW:(rectOf t l rs ⟨(a:Int),xc,(m:Int),xs,xi⟩).w=cellV l t.gap ⟨(a:Int),xc,(m:Int),xs,xi⟩:=rfl
 rw [eX,eW]
 clear eX eW
 generalize atV l t.gap xc=qx at KX ⊢
 generalize cellV l t.gap ⟨(a:Int),xc,(m:Int),xs,xi⟩=qw at KW ⊢
 generalize (rs.take a).sum=qy at KY ⊢
 generalize (subL rs a m).sum=qh at KZ ⊢
 have t1:(a:Int)≤(a:Int)+(m:Int):=by omega
 have t2:(a:Int)+(m:Int)≤(cap:Int):=by omega
 have t3:(a:Int)≤(cap:Int):=by omega
 have t4:¬ cap=a:=by omega
 have t5:((a:Int)+(m:Int)).toNat=a+m:=by omega
 have t6:¬ (a+m < a):=by omega
 have t7:a+m - a=m:=by omega
 clear hI hR hst X0 X1 X2 K0 HI HR HT HU hs hxo
 go_enter Tryz.func50,Tryz.ntmps50
 go_upto_region 1 with fail
 clear hW0
 refine wp_region_last 27 hmx (by rfl) (by rfl) (by kernel_rfl) (by kernel_rfl) ?_
 simp only [List.take_succ_cons,List.take_zero]
 repeat (go_big_quiet_step (first | (go_at_call_of 88 (m:Nat);refine KZ.out _) | (go_at_call 88;refine KY.out _) | (go_at_call 98;refine KX.out _) | (go_at_call 97;refine KW.out _)))
 refine wpQuiet_nil ?_
 intro W7 hw'
 obtain ⟨⟨Wx,hW7⟩,hw''⟩:=hw'
 subst hw''
 have X7:=(hW7.block (w.heap.size+1+1) (by omega)).trans HX2.out
 have HB7:=Hd (k_trans HK0.out hW7)
 obtain ⟨⟨o0,o1,o2,o3⟩,of⟩:=fourF X7
 have of0:=of 0
 have of1:=of 1
 have of2:=of 2
 have of3:=of 3
 have Y7:=HX2.out
 clear m0 m1 m2 m3 m4 m5 hne KX KY KW KZ hW7 X7 of HX2 Y7
 rw [if_pos (by rfl)]
 go_simp
 go_wp2
 refine bodyPost_ret (v:=.agg #[.int .i64 qx,.int .i64 qy,.int .i64 qw,.int .i64 qh]) (by simp [results,Tryz.results50,go_sem,o0,o1,o2,o3]) rfl ⟨rfl,?_⟩
 exact k_set (k_set (k_set (k_set HB7.out (p:=⟨w.heap.size+1+1,0,none⟩) (by show w.heap.size≤w.heap.size+1+1;omega) _) (p:=⟨w.heap.size+1+1,1,none⟩) (by show w.heap.size≤w.heap.size+1+1;omega) _) (p:=⟨w.heap.size+1+1,2,none⟩) (by show w.heap.size≤w.heap.size+1+1;omega) _) (p:=⟨w.heap.size+1+1,3,none⟩) (by show w.heap.size≤w.heap.size+1+1;omega) _
end Go.Proofs.YtcbibdhlkdcmiaiGreat
namespace Go.Proofs.YtcbibdhlkdcmiaiGreat
open Go.RowKit
theorem sumTo_mono {l:List Int} (h:∀ x ∈ l,0≤x) {a b:Nat} (hab:a≤b):sumTo l a≤sumTo l b:=by
 have e:b=a+(b - a):=by omega
 rw [sumTo,sumTo,e,List.take_add,List.sum_append]
 have:=sum_nn (l:=List.take (b - a) (List.drop a l)) (fun x hx=>h x (List.mem_of_mem_drop (List.mem_of_mem_take hx)))
 omega
theorem mul_mono {g:Int} (h:0≤g) {a b:Int} (hab:a≤b):g * a≤g * b:=Int.mul_le_mul_of_nonneg_left hab h
structure RPl (t:T) (l rs:List Int) (x:GC) (c m a n:Nat):Prop where
 ec:x.col=c
 em:x.cols=m
 er:x.row=a
 en:x.rows=n
 m1:1≤m
 n1:1≤n
 cm:c+m≤l.length
 an:a+n≤rs.length
 qx:(rectOf t l rs x).x=sumTo l c+t.gap * (c:Int)
 qw:(rectOf t l rs x).w=sumTo l (c+m) - sumTo l c+t.gap * ((m:Int) - 1)
 qy:(rectOf t l rs x).y=sumTo rs a
 qh:(rectOf t l rs x).h=sumTo rs (a+n) - sumTo rs a
structure TabF (t:T) (l rs:List Int):Prop where
 gap:0≤t.gap∧t.gap≤3
 ln:∀ x ∈ l,0≤x∧x≤5000
 rn:∀ x ∈ rs,0≤x∧x≤1000
 l88:l.length≤88
 l1:1≤l.length
 r8:rs.length≤8
 pl:∀ k,k < (gOf t).cells.length→∃ c m a n,RPl t l rs ((gOf t).cells.getD k dG) c m a n
 ap:∀ i j,i < j→j < (gOf t).cells.length→meetsB ((gOf t).cells.getD i dG) ((gOf t).cells.getD j dG)=false
theorem tabF {t:T} (hD:Drawn t) (hok:tblB t=true) {width:Int} (hw:0≤width∧width≤300):TabF t (widL t width) (rowsOfT t (widL t width)):=by
 obtain ⟨_,hlw,_⟩:=acr_wid hD hok hw
 obtain ⟨hC1,hC88,_⟩:=acr_least hD hok
 obtain ⟨h40,C,hgc,hC88',hcel⟩:=cel_of hD
 have hup:=wid_up hD hok hw
 have hCN:=colN_of hgc
 have hcell:=gCell hD hok
 have h8:=tRows hD hok
 have hlr:(rowsOfT t (widL t width)).length=t.rows.length:=by rw [rowsOfT,rowsL_len]
 have hrs:∀ x ∈ rowsOfT t (widL t width),0≤x∧x≤1000:=rows_small (rc_le t (widL t width) (gOf t).cells) t.rows.length
 have hg:0≤t.gap∧t.gap≤3:=by
  simp only [tblB,inB,Bool.and_eq_true,decide_eq_true_eq] at hok
  exact hok.2.2.1
 refine ⟨hg,fun x hx=>hup.mem hx,hrs,by omega,by omega,by omega,fun k hk=>?_,fun i j hij hj=>?_⟩
 ·have hc:=hcel k hk
  obtain ⟨a,n,f1,f2,f3,f4⟩:=hcell k hk
  generalize (gOf t).cells.getD k dG=x at hc f1 f2
  obtain ⟨rn,jn,cn,mn,e1,e2,e3,e4,h1,h2,h3,h4,h5⟩:=hc.ex
  have hb5:UpB (widL t width) 50000:=fun i hi=>⟨(hup i hi).1,by have:=(hup i hi).2;omega⟩
  refine ⟨cn,mn,a,n,e3,e4,f1,f2,h4,f3,by omega,by rw [hlr];exact f4,?_,?_,?_,?_⟩
  ·show atV (widL t width) t.gap x.col=_
   rw [e3]
   have hs:=sum_upB (l:=(widL t width).take cn) (B:=5000) (fun y hy=>hup.mem (List.mem_of_mem_take hy))
   rw [List.length_take] at hs
   have hg1:0≤t.gap * (cn:Int):=Int.mul_nonneg hg.1 (by omega)
   have hg2:t.gap * (cn:Int)≤3 * (cn:Int):=Int.mul_le_mul_of_nonneg_right hg.2 (by omega)
   unfold atV
   rw [aheadN_nat _ (by omega),W_small (by rw [sumTo];omega)]
  ·show cellV (widL t width) t.gap x=_
   rw [cellV_has hc hb5 (by omega),hasV,e3,e4,Int.toNat_natCast,Int.toNat_natCast,sub_sum]
  ·show atV (rowsOfT t (widL t width)) 0 x.row=_
   rw [f1]
   exact at_rows hrs (by omega) (by omega)
  ·have s1:=sumTo_small hrs (a+n)
   have s2:=sumTo_small hrs a
   exact high_span f1 f2 f3 (by rw [hlr];exact f4) (by omega)
 ·have hl:=low_of hok hD
  rw [gOf_ok hok] at hj ⊢
  exact free_mem (laid_of hl hj).free hij (Nat.le_of_lt hj)
structure ApF (t:T) (l rs:List Int) (qs:List QR) (wide high:Int):Prop where
 len:qs.length=(gOf t).cells.length
 box:∀ k,k < qs.length→(0≤(qs.getD k dQ).x∧0≤(qs.getD k dQ).y)∧((qs.getD k dQ).x+(qs.getD k dQ).w≤wide∧(qs.getD k dQ).y+(qs.getD k dQ).h≤high)∧0≤(qs.getD k dQ).w∧0≤(qs.getD k dQ).h
 apart:∀ i j,i < j→j < qs.length→¬ ((qs.getD j dQ).x < (qs.getD i dQ).x+(qs.getD i dQ).w∧(qs.getD i dQ).x < (qs.getD j dQ).x+(qs.getD j dQ).w∧(qs.getD j dQ).y < (qs.getD i dQ).y+(qs.getD i dQ).h∧(qs.getD i dQ).y < (qs.getD j dQ).y+(qs.getD j dQ).h)
 wd:0≤wide∧wide≤1000000
 hg:0≤high∧high≤8000
theorem ap_facts {t:T} {l rs:List Int} (h:TabF t l rs):ApF t l rs (rectsL t l rs (gOf t).cells) (l.sum+t.gap * ((l.length:Int) - 1)) rs.sum:=by
 have hln:∀ x ∈ l,0≤x:=fun x hx=>(h.ln x hx).1
 have hrn:∀ x ∈ rs,0≤x:=fun x hx=>(h.rn x hx).1
 have hsl:=sum_upB (l:=l) (B:=5000) h.ln
 have hsr:=sum_upM h.rn
 have hs0:=sum_nn hln
 have hr0:=sum_nn hrn
 have hg1:0≤t.gap * ((l.length:Int) - 1):=Int.mul_nonneg h.gap.1 (by have:=h.l1;omega)
 have hg2:t.gap * ((l.length:Int) - 1)≤3 * ((l.length:Int) - 1):=Int.mul_le_mul_of_nonneg_right h.gap.2 (by have:=h.l1;omega)
 have h88:=h.l88
 have h8:=h.r8
 have hlen:=rectsL_len t l rs (gOf t).cells
 refine ⟨hlen,fun k hk=>?_,fun i j hij hj=>?_,⟨by omega,by omega⟩,⟨by omega,by omega⟩⟩
 ·rw [hlen] at hk
  rw [rectsL_get t l rs hk]
  obtain ⟨c,m,a,n,p⟩:=h.pl k hk
  rw [p.qx,p.qw,p.qy,p.qh]
  have s1:=sumTo_mono hln (a:=0) (b:=c) (by omega)
  have s2:=sumTo_mono hln (a:=c) (b:=c+m) (by omega)
  have s3:=sumTo_mono hln (a:=c+m) (b:=l.length) p.cm
  rw [sumTo_all] at s3
  have r1:=sumTo_mono hrn (a:=0) (b:=a) (by omega)
  have r2:=sumTo_mono hrn (a:=a) (b:=a+n) (by omega)
  have r3:=sumTo_mono hrn (a:=a+n) (b:=rs.length) p.an
  rw [sumTo_all] at r3
  have z1:sumTo l 0=0:=rfl
  have z2:sumTo rs 0=0:=rfl
  have g1:0≤t.gap * (c:Int):=Int.mul_nonneg h.gap.1 (by omega)
  have g2:0≤t.gap * ((m:Int) - 1):=Int.mul_nonneg h.gap.1 (by have:=p.m1;omega)
  have g3:t.gap * (c:Int)+t.gap * ((m:Int) - 1)≤t.gap * ((l.length:Int) - 1):=by
   rw [← Int.mul_add]
   exact mul_mono h.gap.1 (by have:=p.cm;omega)
  omega
 ·rw [hlen] at hj
  rw [rectsL_get t l rs hj,rectsL_get t l rs (by omega:i < (gOf t).cells.length)]
  obtain ⟨c,m,a,n,p⟩:=h.pl i (by omega)
  obtain ⟨c',m',a',n',p'⟩:=h.pl j hj
  have hm:=h.ap i j hij hj
  rw [p.qx,p.qw,p.qy,p.qh,p'.qx,p'.qw,p'.qy,p'.qh]
  have hm2:¬ (((a:Int) < a'+n'∧(a':Int) < a+n)∧(c:Int) < c'+m'∧(c':Int) < c+m):=by
   intro hh
   rw [meetsB,p.ec,p.em,p.er,p.en,p'.ec,p'.em,p'.er,p'.en] at hm
   simp at hm
   omega
  have n1:=p.n1
  have n2:=p'.n1
  have m1:=p.m1
  have m2:=p'.m1
  have e1:t.gap * (c:Int)+t.gap * ((m:Int) - 1)=t.gap * (((c+m:Nat):Int) - 1):=by rw [← Int.mul_add];congr 1;omega
  have e2:t.gap * (c':Int)+t.gap * ((m':Int) - 1)=t.gap * (((c'+m':Nat):Int) - 1):=by rw [← Int.mul_add];congr 1;omega
  rcases (by omega:a+n≤a'∨a'+n'≤a∨c+m≤c'∨c'+m'≤c) with hc | hc | hc | hc
  ·have:=sumTo_mono hrn hc;omega
  ·have:=sumTo_mono hrn hc;omega
  ·have s:=sumTo_mono hln hc
   have gg:=mul_mono h.gap.1 (a:=((c+m:Nat):Int) - 1) (b:=(c':Int)) (by omega)
   omega
  ·have s:=sumTo_mono hln hc
   have gg:=mul_mono h.gap.1 (a:=((c'+m':Nat):Int) - 1) (b:=(c:Int)) (by omega)
   omega
def areaTo (qs:List QR):Nat→Int
 | 0=>0
 | k+1=>areaTo qs k+(qs.getD k dQ).w * (qs.getD k dQ).h
def natQ (q:QR):Nat × Nat × Nat × Nat:=(q.x.toNat,q.y.toNat,q.w.toNat,q.h.toNat)
def hasQ (qs:List QR) (x y:Int) (k:Nat):Bool:=qinB (qs.getD k dQ).x (qs.getD k dQ).y (qs.getD k dQ).w (qs.getD k dQ).h x y
def HitAt (qs:List QR) (x y r:Int):Prop:=(∃ k:Nat,k < qs.length∧r=k∧hasQ qs x y k=true∧∀ j,j < k→hasQ qs x y j=false)∨(r=-1∧∀ j,j < qs.length→hasQ qs x y j=false)
theorem HitAt.one {qs:List QR} {x y r r':Int} (h:HitAt qs x y r) (h':HitAt qs x y r'):r=r':=by
 rcases h with ⟨k,hk,rfl,e,f⟩ | ⟨rfl,f⟩
 ·rcases h' with ⟨k',hk',rfl,e',f'⟩ | ⟨rfl,f'⟩
  ·rcases Nat.lt_trichotomy k k' with hl | rfl | hl
   ·rw [f' k hl] at e;exact absurd e (by simp)
   ·rfl
   ·rw [f k' hl] at e';exact absurd e' (by simp)
  ·rw [f' k hk] at e;exact absurd e (by simp)
 ·rcases h' with ⟨k',hk',rfl,e',f'⟩ | ⟨rfl,f'⟩
  ·rw [f k' hk'] at e';exact absurd e' (by simp)
  ·rfl
theorem none_next {qs:List QR} {x y:Int} {k:Nat} (h:∀ j,j < k→hasQ qs x y j=false) (hk:hasQ qs x y k=false):∀ j,j < k+1→hasQ qs x y j=false:=fun j hj=>by
 rcases (by omega:j < k∨j=k) with hl | rfl
 ·exact h j hl
 ·exact hk
def QI (q:QR):Prop:=I64 q.x∧I64 q.y∧I64 q.w∧I64 q.h
def InF (qs:List QR):Prop:=(∀ k,k < qs.length→QI (qs.getD k dQ))∧∀ (x y:Int) (i j:Nat),i < j→j < qs.length→hasQ qs x y i=true→hasQ qs x y j=false
theorem inF {t:T} (hD:Drawn t) (x:Int):InF (rectsT t x):=by
 by_cases hm:(tblB t && inB x 0 300)=true
 ·have hm':=hm
  rw [Bool.and_eq_true] at hm'
  have hx:0≤x∧x≤300:=by simpa [inB] using hm'.2
  have h:=ap_facts (tabF hD hm'.1 hx)
  rw [rectsT,if_pos hm]
  generalize rectsL t (widL t x) (rowsOfT t (widL t x)) (gOf t).cells=qs at h
  have hw:=h.wd
  have hh:=h.hg
  refine ⟨fun k hk=>?_,fun px py i j hij hj hi=>?_⟩
  ·have b:=h.box k hk
   unfold QI I64
   omega
  ·have a:=h.apart i j hij hj
   have b1:=h.box i (by omega)
   have b2:=h.box j hj
   unfold hasQ qinB amongB at hi ⊢
   generalize qs.getD i dQ=p at a b1 hi
   generalize qs.getD j dQ=q at a b2
   simp at hi ⊢
   omega
 ·rw [rectsT,if_neg hm]
  exact ⟨fun k hk=>absurd hk (Nat.not_lt_zero _),fun _ _ _ _ _ hj=>absurd hj (Nat.not_lt_zero _)⟩
theorem hit_has {qs:List QR} {x y r:Int} (h:InF qs) (hr:HitAt qs x y r) {k:Nat} (hk:k < qs.length):hasQ qs x y k=((k:Int) == r):=by
 rcases hr with ⟨n,hn,rfl,e,f⟩ | ⟨rfl,f⟩
 ·rcases Nat.lt_trichotomy k n with hl | rfl | hl
  ·rw [f k hl];symm;rw [beq_eq_false_iff_ne];omega
  ·rw [e];simp
  ·rw [h.2 x y n k hl hk e];symm;rw [beq_eq_false_iff_ne];omega
 ·rw [f k hk];symm;rw [beq_eq_false_iff_ne];omega
theorem hit_lt {qs:List QR} {x y r:Int} (hr:HitAt qs x y r):r < (qs.length:Int):=by
 rcases hr with ⟨n,hn,rfl,_⟩ | ⟨rfl,_⟩ <;> omega
end Go.Proofs.YtcbibdhlkdcmiaiGreat
namespace Go.Proofs.YtcbibdhlkdcmiaiGreat
open Go.RowKit Go.BigFrame
theorem fourHi {w:World} {g:Nat} {x0 x1 x2 x3:Value} {t:TypeId} (h:w.heap[g]?=some (.cells #[x0,x1,x2,x3] t)):w.cell? ⟨g,0,none⟩=some x0∧w.cell? ⟨g,1,none⟩=some x1∧w.cell? ⟨g,2,none⟩=some x2∧w.cell? ⟨g,3,none⟩=some x3:=⟨cellB h,cellB h,cellB h,cellB h⟩
set_option maxRecDepth 100000 in
set_option maxHeartbeats 2000000 in
theorem implQryHit (ac ar:Option Addr) (cc cr:Nat) (t:T) (hD:Drawn t) (width x y:Int) (hx:I64 x) (hy:I64 y) (w:World) {z:Nat} (hc:ColsAt w z (.slice ac t.cols.length cc) t.cols) (hr:RowsAt w z (.slice ar t.rows.length cr) t.rows) :
  Calls Tryz.prog 30 #[.agg #[.slice ac t.cols.length cc,.int .i64 t.head,.int .i64 t.foot,.slice ar t.rows.length cr,.int .i64 t.gap],.int .i64 width,.int .i64 x,.int .i64 y] w fun e w'=>∃ r,e=.returned (.int .i64 r)∧HitAt (rectsT t width) x y r∧Below w.heap.size w w':=by
 have HK0:=Hd (k_alloc (Below.refl w.heap.size w) (.cells #[.slice ac t.cols.length cc,.int .i64 t.head,.int .i64 t.foot,.slice ar t.rows.length cr,.int .i64 t.gap] 33))
 have HX0:=Hd (newestB w (.cells #[.slice ac t.cols.length cc,.int .i64 t.head,.int .i64 t.foot,.slice ar t.rows.length cr,.int .i64 t.gap] 33))
 have HT0:Hid (TA w z ac ar cc cr t):=⟨hc,hr⟩
 have HQ:=Hd (fun W (h:TA W z ac ar cc cr t)=>implQryRects ac ar cc cr t hD width W h.1 h.2)
 have HI:=Hd (inF hD width).1
 generalize rectsT t width=QL at HQ HI ⊢
 clear hc hr
 go_enter Tryz.func30,Tryz.ntmps30
 go_upto_region 1 with fail
 generalize w.alloc (.cells #[.slice ac t.cols.length cc,.int .i64 t.head,.int .i64 t.foot,.slice ar t.rows.length cr,.int .i64 t.gap] 33)=W0 at HK0 HX0 ⊢
 obtain ⟨b0,b1,b2,b3,b4⟩:=(fiveZ HX0.out).1
 have KQ:=Hd (HQ.out _ (HT0.out.kept HK0.out))
 go_wp2_with fail
 refine KQ.out.mono ?_
 rintro e w1 ⟨v1,rfl,hR1,hb1⟩
 obtain ⟨a1,c1,rfl,hq1⟩:=At.form hR1
 have HJ:=Hd hR1
 have HK:=Hd (k_trans HK0.out hb1)
 unfold maxLen at hq1
 clear hR1 hb1 KQ HQ HK0 HX0 HT0 b0 b1 b2 b3 b4
 go_wp2_with fail
 go_loopw [15] (fun s W=>∃ k:Nat,s=.int .i64 k∧k≤QL.length∧Hid (∀ j,j < k→hasQ QL x y j=false)∧Hid (Below w1.heap.size w1 W)) (fun s _=>QL.length - (intOf s).toNat)
 case atStart=>exact ⟨0,rfl,Nat.zero_le _,fun j hj=>absurd hj (Nat.not_lt_zero _),Below.refl _ _⟩
 case round=>as_aux_lemma =>
  obtain ⟨k,rfl,hk,HN,HB⟩:=hrel
  by_cases hkl:k < QL.length
  case neg =>
   obtain rfl:k=QL.length:=by omega
   have hnot:¬ ((QL.length:Int) < (QL.length:Int)):=by omega
   have HB7:=Hd (HK.out.trans (HB.out.mono HK.out.size))
   go_wp2
   go_ret
   exact ⟨-1,rfl,.inr ⟨rfl,HN.out⟩,HB7.out⟩
  obtain ⟨bq,offq,capq,eq1,hq1,hq2,hbq,n0,n1,n2,n3⟩:=At.get (HJ.out.kept HB.out) hkl
  simp only [Value.slice.injEq,true_and] at eq1
  obtain ⟨rfl,rfl⟩:=eq1
  unfold maxLen at hq2
  obtain ⟨i1,i2,i3,i4⟩:=HI.out k hkl
  have HH:Hid (hasQ QL x y k=qinB (QL.getD k dQ).x (QL.getD k dQ).y (QL.getD k dQ).w (QL.getD k dQ).h x y):=rfl
  generalize QL.getD k dQ=qa at n0 n1 n2 n3 i1 i2 i3 i4 HH
  have KI:=Hd (fun W1=>implQryIn qa.x qa.y qa.w qa.h x y i1 i2 i3 i4 hx hy W1)
  generalize qinB qa.x qa.y qa.w qa.h x y=bb at KI HH
  have t1:(k:Int) < (QL.length:Int):=by omega
  go_upto_region 4 with fail
  have HC4:=newestB wr (.cells #[.int .i64 qa.x,.int .i64 qa.y,.int .i64 qa.w,.int .i64 qa.h] 50)
  have KA:=k_alloc (Below.refl wr.heap.size wr) (.cells #[.int .i64 qa.x,.int .i64 qa.y,.int .i64 qa.w,.int .i64 qa.h] 50)
  have HB4:=Hd (k_trans HB.out KA)
  clear KA n0 n1 n2 n3 hbq HB
  generalize wr.alloc (.cells #[.int .i64 qa.x,.int .i64 qa.y,.int .i64 qa.w,.int .i64 qa.h] 50)=W4 at HB4 HC4 ⊢
  generalize wr.heap.size=qb0 at HC4 ⊢
  obtain ⟨o0,o1,o2,o3⟩:=fourHi HC4
  clear HC4
  cases bb with
  | true =>
   go_wp2_with fail
   refine (KI.out _).mono ?_
   rintro e w13 ⟨rfl,hb13⟩
   have HB5:=Hd (HK.out.trans ((k_trans HB4.out hb13).mono HK.out.size))
   clear hb13 o0 o1 o2 o3
   go_wp2
   go_ret
   exact ⟨k,rfl,.inl ⟨k,hkl,rfl,HH.out,HN.out⟩,HB5.out⟩
  | false =>
   go_wp2_with fail
   refine (KI.out _).mono ?_
   rintro e w13 ⟨rfl,hb13⟩
   have HB5:=Hd (k_trans HB4.out hb13)
   clear hb13 o0 o1 o2 o3
   go_wp2
   go_roundw
   case rel=>exact ⟨k+1,by go_num,by omega,none_next HN.out HH.out,HB5⟩
   case measure=>simp [intOf];omega
end Go.Proofs.YtcbibdhlkdcmiaiGreat
namespace Go.Proofs.YtcbibdhlkdcmiaiGreat
open Go.RowKit
theorem RowI.grown {w w':World} {B D base:Nat} {v U:Value} {l:List Int} {m:Nat} {xs:List Value} (h:RowI w B D v l) (hU:w.ownsRow base 50 4 U m xs) (k:w.grownBy w' U.ownBlock):RowI w' B D v l:=by
 rcases h with h | ⟨g,cap,cur,hv,hb,hd,hg,r⟩
 ·exact .inl h
 ·exact .inr ⟨g,cap,cur,hv,hb,hd,blk_grown hg k (ne_of_own (row_ne_block hU hg (by decide))),r⟩
theorem OwnG.grown {w w':World} {base base':Nat} {v U:Value} {gs:List GC} {m:Nat} {xs:List Value} (h:OwnG w base v gs) (hU:w.ownsRow base' 50 4 U m xs) (k:w.grownBy w' U.ownBlock):OwnG w' base v gs :=
 ⟨h.1,h.2.elim Or.inl (fun ⟨g,cap,cur,hv,hg,hc,r⟩=>Or.inr ⟨g,cap,cur,hv,hg,blk_grown hc k (ne_of_own (row_ne_block hU hc (by decide))),r⟩)⟩
theorem OwnG.keptQ {w w':World} {base:Nat} {v:Value} {gs:List GC} (h:OwnG w base v gs) (hb:Below w.heap.size w w'):OwnG w' base v gs :=
 ⟨h.1,h.2.elim Or.inl (fun ⟨g,cap,cur,hv,hg,hc,r⟩=>Or.inr ⟨g,cap,cur,hv,hg,(hb.block g (bL hc)).trans hc,r⟩)⟩
theorem OwnG.baseQ {w:World} {base base':Nat} {v:Value} {gs:List GC} (h:OwnG w base v gs) (hb:base'≤base):OwnG w base' v gs :=
 ⟨h.1,h.2.elim Or.inl (fun ⟨g,cap,cur,hv,hg,r⟩=>Or.inr ⟨g,cap,cur,hv,Nat.le_trans hb hg,r⟩)⟩
structure Qk (w:World) (ac ar ag:Option Addr) (cc cr cg:Nat) (t:T) (gb:Nat) (v7 v8:Value) (l rs:List Int) (W:World):Prop where
 bw:Below w.heap.size w W
 tx:W.heap[w.heap.size]?=some (.cells #[.slice ac t.cols.length cc,.int .i64 t.head,.int .i64 t.foot,.slice ar t.rows.length cr,.int .i64 t.gap] 33)
 gx:W.heap[gb]?=some (.cells #[.int .i64 (gOf t).rows,.int .i64 (gOf t).cols,.slice ag (gOf t).cells.length cg] 56)
 og:OwnG W w.heap.size (.slice ag (gOf t).cells.length cg) (gOf t).cells
 i7:RowI W w.heap.size W.heap.size v7 l
 i8:RowI W w.heap.size W.heap.size v8 rs
 sz:w.heap.size+1≤W.heap.size
theorem Qk.kept {w W W':World} {ac ar ag:Option Addr} {cc cr cg:Nat} {t:T} {gb:Nat} {v7 v8:Value} {l rs:List Int} (h:Qk w ac ar ag cc cr cg t gb v7 v8 l rs W) (hb:Below W.heap.size W W'):Qk w ac ar ag cc cr cg t gb v7 v8 l rs W' :=
 ⟨h.bw.trans (hb.mono h.bw.size),(hb.block _ (bL h.tx)).trans h.tx,(hb.block _ (bL h.gx)).trans h.gx,h.og.keptQ hb,
  (h.i7.kept (fun j h0 _ _=>hb.block j h0)).base (Nat.le_refl _) hb.size,(h.i8.kept (fun j h0 _ _=>hb.block j h0)).base (Nat.le_refl _) hb.size,Nat.le_trans h.sz hb.size⟩
theorem Qk.grown {w W W':World} {ac ar ag:Option Addr} {cc cr cg:Nat} {t:T} {gb:Nat} {v7 v8 U:Value} {l rs:List Int} {m:Nat} {xs:List Value} (h:Qk w ac ar ag cc cr cg t gb v7 v8 l rs W) (hU:W.ownsRow (w.heap.size+1) 50 4 U m xs) (k:W.grownBy W' U.ownBlock):Qk w ac ar ag cc cr cg t gb v7 v8 l rs W' :=
 ⟨h.bw.grown k h.bw.size (fun q hq=>by have:=(hU.lt q hq).1;omega),blk_grown h.tx k (ne_of_own (row_ne_block hU h.tx (by decide))),blk_grown h.gx k (ne_of_own (row_ne_block hU h.gx (by decide))),h.og.grown hU k,
  (h.i7.grown hU k).base (Nat.le_refl _) k.size,(h.i8.grown hU k).base (Nat.le_refl _) k.size,Nat.le_trans h.sz k.size⟩
theorem l3Of_o (ac ar:Option Addr) (cc cr:Nat) (t:T) (hD:Drawn t) (hok:tblB t=true) (w:World) {z:Nat} (hr:RowsAt w z (.slice ar t.rows.length cr) t.rows) :
  Calls Tryz.prog 46 #[.agg #[.slice ac t.cols.length cc,.int .i64 t.head,.int .i64 t.foot,.slice ar t.rows.length cr,.int .i64 t.gap]] w fun e w'=>∃ ag cg,e=.returned (.agg #[.int .i64 (gOf t).rows,.int .i64 (gOf t).cols,.slice ag (gOf t).cells.length cg])∧OwnG w' w.heap.size (.slice ag (gOf t).cells.length cg) (gOf t).cells∧Below w.heap.size w w':=by
 refine (l3Of_any ac ar cc cr t (low_of hok hD) w hr).mono ?_
 rintro e w' ⟨vg,rfl,hO,hb⟩
 rw [gOf_ok hok]
 obtain ⟨ag,cg,rfl⟩:=own_slice hO
 exact ⟨ag,cg,rfl,hO,hb⟩
end Go.Proofs.YtcbibdhlkdcmiaiGreat
