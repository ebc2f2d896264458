/-
  PROVED HERE: the model's l6Cols at a drawn table: the list widL, in memory of its own; nothing that was in memory is turned. Also: 2 more texts of the same proof.
-/
import Derived.Test.YtojogjlblgcioanGreatC42
import Derived.Test.YtojogjlblgcioanGreatC35
import Derived.Test.YtojogjlblgcioanGreatC43
import Derived.Test.YtojogjlblgcioanGreatC32
import Derived.Test.YtojogjlblgcioanGreatC36
import Derived.Test.YtojogjlblgcioanGreatC12
import Derived.Test.YtojogjlblgcioanGreatC34
import Derived.Test.YtojogjlblgcioanGreatC30
import Derived.Test.YtojogjlblgcioanGreatC17
import Derived.Test.YtojogjlblgcioanGreatC22
import Derived.Test.YtojogjlblgcioanGreatC21
namespace Go.Proofs.YtojogjlblgcioanGreat
open Go.RowKit Go.BigFrame
set_option maxRecDepth 100000 in
set_option maxHeartbeats 1000000 in
theorem specl5Gaps (ac ar:Option Addr) (cc cr:Nat) (t:T) (r:Int) (vg:Value) (C:Nat) (hC:1≤C∧C≤88) (hgap:0≤t.gap∧t.gap≤3) (w:World) :
  Calls Tryz.prog 43 #[.agg #[.slice ac t.cols.length cc,.int .i64 t.head,.int .i64 t.foot,.slice ar t.rows.length cr,.int .i64 t.gap],.agg #[.int .i64 r,.int .i64 (C:Int),vg]] w fun e w'=>e=.returned (.int .i64 (t.gap * ((C:Int) - 1)))∧Below w.heap.size w w':=by
 obtain ⟨m,rfl⟩:∃ m:Nat,C=m+1:=⟨C - 1,by omega⟩
 have e1:((m+1:Nat):Int) - 1=m:=by omega
 have hg1:0≤t.gap * (m:Int):=Int.mul_nonneg hgap.1 (by omega)
 have hg2:t.gap * (m:Int)≤3 * 87:=Int.mul_le_mul hgap.2 (by omega) (by omega) (by omega)
 rw [e1]
 clear e1
 go_enter Tryz.func43,Tryz.ntmps43
 go_wp2
 go_ret
 exact ⟨by go_num,by repeat (first | exact Below.refl _ _ | apply k_alloc)⟩
set_option maxRecDepth 100000 in
set_option maxHeartbeats 2000000 in
theorem specl6Cols (ac ar:Option Addr) (cc cr:Nat) (t:T) (hD:Drawn t) (ag:Option Addr) (cg:Nat) (width:Int) (hw:0≤width∧width≤300) (hok:tblB t=true) (w:World) {z zg:Nat} (hc:ColsAt w z (.slice ac t.cols.length cc) t.cols) (hr:RowsAt w z (.slice ar t.rows.length cr) t.rows) (hg:GsAt w zg (.slice ag (gOf t).cells.length cg) (gOf t).cells) :
  Calls Tryz.prog 42 #[.agg #[.slice ac t.cols.length cc,.int .i64 t.head,.int .i64 t.foot,.slice ar t.rows.length cr,.int .i64 t.gap],.agg #[.int .i64 (gOf t).rows,.int .i64 (gOf t).cols,.slice ag (gOf t).cells.length cg],.int .i64 width] w fun e w'=>∃ v,e=.returned v∧RowI w' w.heap.size w'.heap.size v (widL t width)∧Below w.heap.size w w':=by
 have hmx:Tryz.prog.follows .mixedOrders=true:=by kernel_rfl
 obtain ⟨hC1,hC88,hacr,ha0,ha1,hall⟩:=acr_least hD hok
 obtain ⟨_,C0,hgc0,_,_⟩:=cel_of hD
 have hgc:(gOf t).cols=(colN t:Int):=by rw [colN_of hgc0];exact hgc0
 have hgap:0≤t.gap∧t.gap≤3:=by
  simp only [tblB,inB,Bool.and_eq_true,decide_eq_true_eq] at hok
  exact hok.2.2.1
 have HlL:=Hd (leastL_len t)
 have HwL:=Hd (wishL_len t)
 have hsum0:0≤(leastL t).sum∧(leastL t).sum≤100 * 100000:=by have:=sum_bound hall;have:=leastL_len t;omega
 have hgg:0≤t.gap * ((colN t:Int) - 1)∧t.gap * ((colN t:Int) - 1)≤1000:=⟨Int.mul_nonneg hgap.1 (by omega),Int.le_trans (Int.mul_le_mul hgap.2 (show (colN t:Int) - 1≤87 by omega) (by omega) (by omega)) (by omega)⟩
 have HrV:Hid (restV t width=width - (leastL t).sum - t.gap * ((colN t:Int) - 1)):=by rw [Hid,restV];omega
 have HP:Hid (Ls w z zg ac ar cc cr t ag cg ((w.alloc (.cells #[.slice ac t.cols.length cc,.int .i64 t.head,.int .i64 t.foot,.slice ar t.rows.length cr,.int .i64 t.gap] 26)).alloc (.cells #[.int .i64 (gOf t).rows,.int .i64 (gOf t).cols,.slice ag (gOf t).cells.length cg] 34))):=by
  have K:=k_alloc (k_alloc (Below.refl w.heap.size w) (.cells #[.slice ac t.cols.length cc,.int .i64 t.head,.int .i64 t.foot,.slice ar t.rows.length cr,.int .i64 t.gap] 26)) (.cells #[.int .i64 (gOf t).rows,.int .i64 (gOf t).cols,.slice ag (gOf t).cells.length cg] 34)
  refine ⟨K,⟨hc.kept K,hr.kept K⟩,hg.kept K,(Below.heap_alloc _ _ _ (by simp)).trans (newestB _ _),?_⟩
  have:=newestB (w.alloc (.cells #[.slice ac t.cols.length cc,.int .i64 t.head,.int .i64 t.foot,.slice ar t.rows.length cr,.int .i64 t.gap] 26)) (.cells #[.int .i64 (gOf t).rows,.int .i64 (gOf t).cols,.slice ag (gOf t).cells.length cg] 34)
  simpa using this
 have KL:=Hd (fun W (h:Ls w z zg ac ar cc cr t ag cg W)=>specl5Least ac ar cc cr t hD ag cg W h.2.1.1 h.2.1.2 h.2.2.1 hok)
 have KW:=Hd (fun W (h:Ls w z zg ac ar cc cr t ag cg W)=>specl5Wish ac ar cc cr t hD ag cg W h.2.1.1 h.2.1.2 h.2.2.1 hok)
 have KG:=Hd (fun W=>specl5Gaps ac ar cc cr t (gOf t).rows (.slice ag (gOf t).cells.length cg) (colN t) ⟨hC1,hC88⟩ hgap W)
 generalize t.gap * ((colN t:Int) - 1)=gp at HrV hgg KG
 rw [← hgc] at KG
 have HC:=Hd (And.intro hC1 hC88)
 have HAll:=Hd hall
 have HWu:=Hd (wishL_up hD)
 have HWno:=Hd (fun h=>wid_no (t:=t) (width:=width) h)
 have HWr:=Hd (fun h=>wid_rest (t:=t) (width:=width) h)
 have HSt:=Hd (fun h=>wid_steps hD hok hw h)
 have HSm:=Hd (fun h=>out1_small hD hok hw h)
 clear hc hr hg hacr ha0 ha1 hall hgc0 hgap
 have Hgc:=Hd hgc
 clear hgc hD hok
 go_enter Tryz.func42,Tryz.ntmps42
 go_upto_region 1 with fail
 generalize (w.alloc (.cells #[.slice ac t.cols.length cc,.int .i64 t.head,.int .i64 t.foot,.slice ar t.rows.length cr,.int .i64 t.gap] 26)).alloc (.cells #[.int .i64 (gOf t).rows,.int .i64 (gOf t).cols,.slice ag (gOf t).cells.length cg] 34)=W0 at HP ⊢
 obtain ⟨b0,b1,b2,b3,b4⟩:=fiveO HP.out.2.2.2.1
 obtain ⟨q0,q1,q2⟩:=threeO HP.out.2.2.2.2
 go_wp2_with fail
 refine (KL.out _ HP.out).mono ?_
 rintro e w1 ⟨v1,rfl,hr1,hb⟩
 obtain ⟨ao,co,rfl⟩:=hr1.form
 rw [HlL.out] at hr1 ⊢
 have HRo:=Hd (hr1.base (B':=w.heap.size) HP.out.1.size (Nat.le_refl _))
 have HO:=Hd hr1.at
 replace HP:=Hd (HP.out.kept hb)
 clear hb hr1 b0 b1 b2 b3 b4 q0 q1 q2 KL
 obtain ⟨b0,b1,b2,b3,b4⟩:=fiveO HP.out.2.2.2.1
 obtain ⟨q0,q1,q2⟩:=threeO HP.out.2.2.2.2
 go_wp2_with fail
 refine (KW.out _ HP.out).mono ?_
 rintro e w2 ⟨v2,rfl,hr2,hb⟩
 obtain ⟨aw,cw,rfl⟩:=hr2.form
 rw [HwL.out] at hr2 ⊢
 have HWi:=Hd hr2.at
 replace HRo:=Hd ((HRo.out.kept (fun j h0 _ _=>hb.block j h0)).base (Nat.le_refl _) hb.size)
 replace HO:=Hd (HO.out.kept hb)
 replace HP:=Hd (HP.out.kept hb)
 clear hb hr2 b0 b1 b2 b3 b4 q0 q1 q2 KW
 have ht0:=(bL HP.out.2.2.2.1)
 have hg0:=(bL HP.out.2.2.2.2)
 have hne:=bw_some w2
 obtain ⟨b0,b1,b2,b3,b4⟩:=fiveO HP.out.2.2.2.1
 obtain ⟨q0,q1,q2⟩:=threeO HP.out.2.2.2.2
 have m0:=bw_cell ht0 b0
 have m1:=bw_cell ht0 b1
 have m2:=bw_cell ht0 b2
 have m3:=bw_cell ht0 b3
 have m4:=bw_cell ht0 b4
 have n0:=bw_cell hg0 q0
 have n1:=bw_cell hg0 q1
 have n2:=bw_cell hg0 q2
 have KS:=Hd (fun (p:BW w2)=>bw_same (specl1Sum_any _ (leastL t) (by have:=leastL_len t;have:=HC.out.2;omega) HAll.out p.u (HO.out.kept p.h)))
 have KGq:=Hd (fun (p:BW w2)=>bw_of (KG.out p.u))
 generalize (leastL t).sum=s at HrV hsum0 KS
 clear b0 b1 b2 b3 b4 q0 q1 q2 KG
 go_upto_region 3 with fail
 refine wp_region_quiet_below hmx (by kernel_rfl) ?_
 repeat (go_big_quiet_step (first | (go_at_call 41;refine KS.out _) | (go_at_call 43;refine KGq.out _)))
 refine wpQuiet_nil ?_
 intro W3 hw'
 obtain ⟨⟨Wx,hb⟩,hw''⟩:=hw'
 subst hw''
 replace HRo:=Hd ((HRo.out.kept (fun j h0 _ _=>hb.block j h0)).base (Nat.le_refl _) hb.size)
 replace HO:=Hd (HO.out.kept hb)
 replace HWi:=Hd (HWi.out.kept hb)
 replace HP:=Hd (HP.out.kept hb)
 clear m0 m1 m2 m3 m4 n0 n1 n2 hne hb KS KGq ht0 hg0
 rw [← HrV.out]
 by_cases hV:restV t width≤0
 ·have HE:=Hd (HWno.out hV)
  go_wp2
  go_ret
  exact ⟨_,rfl,by rw [HE.out];exact HRo.out,HP.out.1⟩
 have hVp:0 < restV t width:=by omega
 obtain ⟨ok1,ok2,hl2,ho1,ho2,_,_⟩:=HSt.out hVp
 have HE:=Hd (HWr.out hVp)
 have Hok1:=Hd ok1
 have Hok2:=Hd ok2
 have Ho1:=Hd ho1
 have Ho2:=Hd ho2
 have Hs1:=Hd (HSm.out hVp)
 have hle1:0≤left1 t width∧left1 t width≤100000:=(shrOk_parts ok2).1
 have hle0:=(shrOk_parts ok1).1
 clear ok1 ok2 ho1 ho2 HSt HSm HWr HWno HrV HRo
 obtain ⟨b0,b1,b2,b3,b4⟩:=fiveO HP.out.2.2.2.1
 go_wp2_with fail
 refine (specl6Wants2 ac ar cc cr t width hw (leastL t) (colN t) HC.out.2 rfl HlL.out HAll.out ao aw co cw _ HP.out.2.1.1 HO.out).mono ?_
 rintro e w4 ⟨v4,rfl,hr4,hb⟩
 obtain ⟨a4,c4,rfl⟩:=hr4.form
 rw [want1_len,HlL.out] at hr4 ⊢
 replace HO:=Hd (HO.out.kept hb)
 replace HWi:=Hd (HWi.out.kept hb)
 replace HP:=Hd (HP.out.kept hb)
 have HX:=Hd hr4.at
 clear hr4 hb b0 b1 b2 b3 b4
 go_wp2_with fail
 refine (specl4UpTo (restV t width) _ (want1 t width (leastL t)) Hok1.out _ HX.out).mono ?_
 rintro e w5 ⟨v5,rfl,hr5,hb⟩
 obtain ⟨a5,c5,rfl⟩:=hr5.form
 have hu1:=(upTo_total Hok1.out).1
 rw [want1_len,HlL.out] at hu1
 rw [hu1] at hr5 ⊢
 replace HO:=Hd (HO.out.kept hb)
 replace HWi:=Hd (HWi.out.kept hb)
 replace HP:=Hd (HP.out.kept hb)
 have HX5:=Hd hr5.at
 have HuL:=Hd hu1
 clear hr5 hb HX hu1
 go_wp2_with fail
 refine (specl6Add _ _ (leastL t) (upToL (restV t width) (want1 t width (leastL t))) (by rw [HuL.out,HlL.out]) (by rw [HlL.out];exact HC.out.2) HAll.out (upTo_small Hok1.out) _ HO.out HX5.out).mono ?_
 rintro e w6 ⟨v6,rfl,hr6,hb⟩
 obtain ⟨a6,c6,rfl⟩:=hr6.form
 have hr6:RowI w6 w5.heap.size w6.heap.size (.slice a6 (out1 t width).length c6) (out1 t width):=hr6
 rw [Ho1.out] at hr6
 rw [show (addL (leastL t) (upToL (restV t width) (want1 t width (leastL t)))).length=colN t from Ho1.out]
 rw [show upToN (restV t width) (want1 t width (leastL t))=left1 t width from rfl]
 replace HWi:=Hd (HWi.out.kept hb)
 replace HP:=Hd (HP.out.kept hb)
 have HO1:=Hd hr6.at
 clear hr6 hb HX5 HO HuL
 obtain ⟨b0,b1,b2,b3,b4⟩:=fiveO HP.out.2.2.2.1
 go_wp2_with fail
 refine (specl6Wants0 ac ar cc cr t width (out1 t width) (colN t) HC.out.2 Ho1.out Hs1.out.1 a6 aw c6 cw _ HP.out.2.1.1 HO1.out HWi.out HWu.out HwL.out).mono ?_
 rintro e w7 ⟨v7,rfl,hr7,hb⟩
 obtain ⟨a7,c7,rfl⟩:=hr7.form
 rw [want2_len,Ho1.out] at hr7 ⊢
 replace HO1:=Hd (HO1.out.kept hb)
 replace HP:=Hd (HP.out.kept hb)
 have HX:=Hd hr7.at
 clear hr7 hb b0 b1 b2 b3 b4 HWi
 go_wp2_with fail
 refine (specl4UpTo (left1 t width) _ (want2 t (out1 t width)) Hok2.out _ HX.out).mono ?_
 rintro e w8 ⟨v8,rfl,hr8,hb⟩
 obtain ⟨a8,c8,rfl⟩:=hr8.form
 have hu2:=(upTo_total Hok2.out).1
 rw [want2_len,Ho1.out] at hu2
 rw [hu2] at hr8 ⊢
 replace HO1:=Hd (HO1.out.kept hb)
 replace HP:=Hd (HP.out.kept hb)
 have HX8:=Hd hr8.at
 have HuL:=Hd hu2
 clear hr8 hb HX hu2
 go_wp2_with fail
 refine (specl6Add _ _ (out1 t width) (upToL (left1 t width) (want2 t (out1 t width))) (by rw [HuL.out,Ho1.out]) (by rw [Ho1.out];exact HC.out.2) Hs1.out.1 (upTo_small Hok2.out) _ HO1.out HX8.out).mono ?_
 rintro e w9 ⟨v9,rfl,hr9,hb⟩
 obtain ⟨a9,c9,rfl⟩:=hr9.form
 have hr9:RowI w9 w8.heap.size w9.heap.size (.slice a9 (out2 t width).length c9) (out2 t width):=hr9
 rw [Ho2.out] at hr9
 rw [show (addL (out1 t width) (upToL (left1 t width) (want2 t (out1 t width)))).length=colN t from Ho2.out]
 rw [show upToN (left1 t width) (want2 t (out1 t width))=left2 t width from rfl]
 have HR2:=Hd (hr9.base (B':=w.heap.size) HP.out.1.size (Nat.le_refl _))
 replace HP:=Hd (HP.out.kept hb)
 clear hr9 hb HX8 HO1 HuL
 obtain ⟨b0,b1,b2,b3,b4⟩:=fiveO HP.out.2.2.2.1
 go_wp2_with fail
 refine (specl6Of ac ar cc cr t 0 (colN t) HC.out.2 _ HP.out.2.1.1).mono ?_
 rintro e w10 ⟨v10,rfl,hr10,hb⟩
 obtain ⟨a10,c10,rfl⟩:=hr10.form
 rw [oneL_len] at hr10 ⊢
 replace HR2:=Hd ((HR2.out.kept (fun j h0 _ _=>hb.block j h0)).base (Nat.le_refl _) hb.size)
 replace HP:=Hd (HP.out.kept hb)
 have HA0:=Hd hr10.at
 clear hr10 hb b0 b1 b2 b3 b4
 have Hone:=Hd (fun q=>(shrOk_parts (oneL_ok (kindP t q) (n:=colN t) (t:=0) (by omega) (by have:=HC.out.2;omega))).2.2)
 have HlE:=Hd (fun q=>oneL_len (kindP t q) (colN t))
 have HsE:=Hd (fun q=>oneL_sum (P:=kindP t q) (n:=colN t))
 have HC88:Hid (colN t≤88):=HC.out.2
 by_cases hn0:0 < (selN (kindP t 0) (colN t)).length
 ·have hz0:(((selN (kindP t 0) (colN t)).length:Int) == 0)=false:=beq_eq_false_iff_ne.2 (by omega)
  go_wp2_with fail
  refine (specl1Sum_any _ (oneL (kindP t 0) (colN t)) (by rw [HlE.out];have:=HC88.out;omega) (Hone.out 0) _ HA0.out).mono ?_
  rintro e wx ⟨rfl,ex⟩
  cases ex
  rw [HsE.out 0]
  go_wp2_with fail
  refine (specl1Sum_any _ (oneL (kindP t 0) (colN t)) (by rw [HlE.out];have:=HC88.out;omega) (Hone.out 0) _ HA0.out).mono ?_
  rintro e wx ⟨rfl,ex⟩
  cases ex
  rw [HsE.out 0]
  go_wp2_with fail
  refine (specl4Share (left2 t width) _ (oneL (kindP t 0) (colN t)) (oneL_ok _ (by omega) (by have:=HC88.out;omega)) _ HA0.out).mono ?_
  rintro e w13 ⟨v13,rfl,hr13,hb⟩
  obtain ⟨a13,c13,rfl⟩:=hr13.form
  have hsl:=shareL_len (oneL_ok (kindP t 0) (n:=colN t) (t:=left2 t width) (by omega) (by have:=HC88.out;omega))
  rw [oneL_len] at hsl
  have HSl:=Hd hsl
  rw [hsl] at hr13 ⊢
  replace HR2:=Hd ((HR2.out.kept (fun j h0 _ _=>hb.block j h0)).base (Nat.le_refl _) hb.size)
  replace HP:=Hd (HP.out.kept hb)
  have HX13:=Hd hr13.at
  clear hr13 hb hsl
  go_wp2_with fail
  refine (specl6Add _ _ (out2 t width) (shareL (left2 t width) (oneL (kindP t 0) (colN t))) (by rw [HSl.out,Ho2.out]) (by rw [Ho2.out];exact HC88.out) Hs1.out.2 (share_small (oneL_ok (kindP t 0) (n:=colN t) (t:=left2 t width) (by omega) (by have:=HC88.out;omega)) (by rw [oneL_len];have:=HC.out.1;omega)) _ HR2.out.at HX13.out).mono ?_
  rintro e w14 ⟨v14,rfl,hr14,hb⟩
  obtain ⟨a14,c14,rfl⟩:=hr14.form
  have HR14:=Hd (hr14.base (B':=w.heap.size) HP.out.1.size (Nat.le_refl _))
  replace HP:=Hd (HP.out.kept hb)
  clear hr14 hb HX13 HR2
  go_wp2
  go_ret
  exact ⟨_,rfl,by rw [HE.out,restL,if_pos hn0];exact HR14.out,HP.out.1⟩
 ·have hl0:(selN (kindP t 0) (colN t)).length=0:=by omega
  go_wp2_with fail
  refine (specl1Sum_any _ (oneL (kindP t 0) (colN t)) (by rw [HlE.out];have:=HC88.out;omega) (Hone.out 0) _ HA0.out).mono ?_
  rintro e wx ⟨rfl,ex⟩
  cases ex
  rw [HsE.out 0]
  rw [hl0]
  obtain ⟨b0,b1,b2,b3,b4⟩:=fiveO HP.out.2.2.2.1
  go_wp2_with fail
  refine (specl6Of ac ar cc cr t 2 (colN t) HC88.out _ HP.out.2.1.1).mono ?_
  rintro e w12 ⟨v12,rfl,hr12,hb⟩
  obtain ⟨a12,c12,rfl⟩:=hr12.form
  rw [oneL_len] at hr12 ⊢
  replace HR2:=Hd ((HR2.out.kept (fun j h0 _ _=>hb.block j h0)).base (Nat.le_refl _) hb.size)
  replace HP:=Hd (HP.out.kept hb)
  have HA2:=Hd hr12.at
  clear hr12 hb b0 b1 b2 b3 b4 HA0
  by_cases hn2:0 < (selN (kindP t 2) (colN t)).length
  ·have hz2:(((selN (kindP t 2) (colN t)).length:Int) == 0)=false:=beq_eq_false_iff_ne.2 (by omega)
   go_wp2_with fail
   refine (specl1Sum_any _ (oneL (kindP t 2) (colN t)) (by rw [HlE.out];have:=HC88.out;omega) (Hone.out 2) _ HA2.out).mono ?_
   rintro e wx ⟨rfl,ex⟩
   cases ex
   rw [HsE.out 2]
   go_wp2_with fail
   refine (specl4Share (left2 t width) _ (oneL (kindP t 2) (colN t)) (oneL_ok _ (by omega) (by have:=HC88.out;omega)) _ HA2.out).mono ?_
   rintro e w13 ⟨v13,rfl,hr13,hb⟩
   obtain ⟨a13,c13,rfl⟩:=hr13.form
   have hsl:=shareL_len (oneL_ok (kindP t 2) (n:=colN t) (t:=left2 t width) (by omega) (by have:=HC88.out;omega))
   rw [oneL_len] at hsl
   have HSl:=Hd hsl
   rw [hsl] at hr13 ⊢
   replace HR2:=Hd ((HR2.out.kept (fun j h0 _ _=>hb.block j h0)).base (Nat.le_refl _) hb.size)
   replace HP:=Hd (HP.out.kept hb)
   have HX13:=Hd hr13.at
   clear hr13 hb hsl
   go_wp2_with fail
   refine (specl6Add _ _ (out2 t width) (shareL (left2 t width) (oneL (kindP t 2) (colN t))) (by rw [HSl.out,Ho2.out]) (by rw [Ho2.out];exact HC88.out) Hs1.out.2 (share_small (oneL_ok (kindP t 2) (n:=colN t) (t:=left2 t width) (by omega) (by have:=HC88.out;omega)) (by rw [oneL_len];have:=HC.out.1;omega)) _ HR2.out.at HX13.out).mono ?_
   rintro e w14 ⟨v14,rfl,hr14,hb⟩
   obtain ⟨a14,c14,rfl⟩:=hr14.form
   have HR14:=Hd (hr14.base (B':=w.heap.size) HP.out.1.size (Nat.le_refl _))
   replace HP:=Hd (HP.out.kept hb)
   clear hr14 hb HX13 HR2
   go_wp2
   go_ret
   exact ⟨_,rfl,by rw [HE.out,restL,if_neg (by omega),if_pos hn2];exact HR14.out,HP.out.1⟩
  ·have hl2':(selN (kindP t 2) (colN t)).length=0:=by omega
   go_wp2_with fail
   refine (specl1Sum_any _ (oneL (kindP t 2) (colN t)) (by rw [HlE.out];have:=HC88.out;omega) (Hone.out 2) _ HA2.out).mono ?_
   rintro e wx ⟨rfl,ex⟩
   cases ex
   rw [HsE.out 2]
   rw [hl2']
   go_wp2
   go_ret
   exact ⟨_,rfl,by rw [HE.out,restL,if_neg (by omega),if_neg (by omega)];exact HR2.out,HP.out.1⟩
end Go.Proofs.YtojogjlblgcioanGreat
namespace Go.Proofs.YtojogjlblgcioanGreat
open Go.RowKit
structure WtJ (ac ar ag:Option Addr) (cc cr cg:Nat) (t:T) (width gp:Int) (W3:World) (L:Nat→Bool) (W:World) (v16 v17 v18 v19 v20 v21 v22 v23 v24 v4:Value):Prop where
 f0:L 0=true→v16=.agg #[.slice ac t.cols.length cc,.int .i64 t.head,.int .i64 t.foot,.slice ar t.rows.length cr,.int .i64 t.gap]
 f1:L 1=true→v17=.agg #[.int .i64 (gOf t).rows,.int .i64 (gOf t).cols,.slice ag (gOf t).cells.length cg]
 f2:L 2=true→v18=.int .i64 width
 f3:L 3=true→IntsAt W v19 (widL t width)
 f4:L 4=true→v20=.int .i64 (widL t width).sum
 f5:L 5=true→v21=.agg #[.slice ac t.cols.length cc,.int .i64 t.head,.int .i64 t.foot,.slice ar t.rows.length cr,.int .i64 t.gap]
 f6:L 6=true→v22=.agg #[.int .i64 (gOf t).rows,.int .i64 (gOf t).cols,.slice ag (gOf t).cells.length cg]
 f7:L 7=true→v23=.int .i64 gp
 f8:L 8=true→v24=.int .i64 ((widL t width).sum+gp)
 f9:L 9=true→v4=.int .i64 ((widL t width).sum+gp)
 b:Below W3.heap.size W3 W
set_option maxRecDepth 100000 in
set_option maxHeartbeats 2000000 in
theorem specWidTable (ac ar:Option Addr) (cc cr:Nat) (t:T) (hD:Drawn t) (width:Int) (w:World) {z:Nat} (hc:ColsAt w z (.slice ac t.cols.length cc) t.cols) (hr:RowsAt w z (.slice ar t.rows.length cr) t.rows) :
  Calls Tryz.prog 9 #[.agg #[.slice ac t.cols.length cc,.int .i64 t.head,.int .i64 t.foot,.slice ar t.rows.length cr,.int .i64 t.gap],.int .i64 width] w fun e w'=>e=.returned (.int .i64 (tabV t width))∧Below w.heap.size w w':=by
 have hmx:Tryz.prog.follows .mixedOrders=true:=by kernel_rfl
 obtain ⟨W0,hW0⟩:∃ W0,w.alloc (.cells #[.slice ac t.cols.length cc,.int .i64 t.head,.int .i64 t.foot,.slice ar t.rows.length cr,.int .i64 t.gap] 26)=W0:=⟨_,rfl⟩
 have K0:Below w.heap.size w W0:=by rw [← hW0];exact k_alloc (Below.refl _ _) _
 have X0:W0.heap[w.heap.size]?=some (.cells #[.slice ac t.cols.length cc,.int .i64 t.head,.int .i64 t.foot,.slice ar t.rows.length cr,.int .i64 t.gap] 26):=by rw [← hW0];exact newestB _ _
 have HP:Hid (Below w.heap.size w W0∧TA W0 z ac ar cc cr t∧W0.heap[w.heap.size]?=some (.cells #[.slice ac t.cols.length cc,.int .i64 t.head,.int .i64 t.foot,.slice ar t.rows.length cr,.int .i64 t.gap] 26)):=⟨K0,⟨hc.kept K0,hr.kept K0⟩,X0⟩
 have KO:=Hd (specTblOk ac ar cc cr t W0 HP.out.2.1.1 HP.out.2.1.2)
 obtain ⟨b0,b1,b2,b3,b4⟩:=fiveO X0
 clear hc hr K0 X0
 have HNo:Hid ((tblB t && inB width 0 300)=false→tabV t width=0):=fun h=>tabV_no h
 cases htk:tblB t with
 | false =>
  rw [htk] at KO
  have HE:=Hd (HNo.out (by rw [htk];rfl))
  clear htk HNo
  go_enter Tryz.func9,Tryz.ntmps9
  go_upto_region 1 with fail
  clear hW0
  go_wp2_with fail
  refine KO.out.mono ?_
  rintro e w1 ⟨rfl,hb1⟩
  have HK1:=Hd (k_trans HP.out.1 hb1)
  clear hb1 KO b0 b1 b2 b3 b4 HP
  go_wp2
  go_ret
  exact ⟨by rw [HE.out];rfl,HK1.out⟩
 | true =>
  rw [htk] at KO
  have HIn:=Hd (l1In_any width 0 300)
  cases hin:inB width 0 300 with
  | false =>
   have HE:=Hd (HNo.out (by rw [htk,hin];rfl))
   rw [hin] at HIn
   clear htk hin hD HNo
   go_enter Tryz.func9,Tryz.ntmps9
   go_upto_region 1 with fail
   clear hW0
   go_wp2_with fail
   refine KO.out.mono ?_
   rintro e w1 ⟨rfl,hb1⟩
   have HK1:=Hd (k_trans HP.out.1 hb1)
   clear hb1 KO b0 b1 b2 b3 b4 HP
   go_wp2_with fail
   refine (HIn.out _).mono ?_
   rintro e w2 ⟨rfl,rfl⟩
   go_wp2
   go_ret
   exact ⟨by rw [HE.out];rfl,HK1.out⟩
  | true =>
   have hw:0≤width∧width≤300:=by simpa [inB] using hin
   obtain ⟨_,hlC,hT,hall,hs0,hs1,hg0,hg1,_⟩:=acr_wid hD htk hw
   obtain ⟨hC1,hC88,_,_,_,_⟩:=acr_least hD htk
   obtain ⟨_,C0,hgc0,_,_⟩:=cel_of hD
   have hgc:(gOf t).cols=(colN t:Int):=by rw [colN_of hgc0];exact hgc0
   have hgap:0≤t.gap∧t.gap≤3:=by
    have hok:=htk
    simp only [tblB,inB,Bool.and_eq_true,decide_eq_true_eq] at hok
    exact hok.2.2.1
   have HT:=Hd hT
   have HA:=Hd hall
   have HN:Hid ((widL t width).length≤1000):=by rw [Hid,hlC];omega
   have KG:=Hd (fun (ag:Option Addr) (cg:Nat) W=>specl5Gaps ac ar cc cr t (gOf t).rows (.slice ag (gOf t).cells.length cg) (colN t) ⟨hC1,hC88⟩ hgap W)
   rw [← hgc] at KG
   have hgp:t.gap * ((gOf t).cols - 1)=t.gap * ((colN t:Int) - 1):=by rw [hgc]
   rw [hgp] at KG
   have KL3:=Hd (fun (ag:Option Addr) (cg:Nat) W {zg:Nat} (h1:TA W z ac ar cc cr t) (h2:GsAt W zg (.slice ag (gOf t).cells.length cg) (gOf t).cells)=>specl6Cols ac ar cc cr t hD ag cg width hw htk W h1.1 h1.2 h2)
   have K3O:=Hd (fun W (h1:TA W z ac ar cc cr t)=>l3Of_g ac ar cc cr t hD htk W h1.2)
   have HGk:=Hd (gOf_gok hD)
   rw [hin] at HIn
   clear hT hall hlC hC1 hC88 hgc0 hgc hgap hgp htk hin hD HNo
   generalize t.gap * ((colN t:Int) - 1)=gp at HT KG hg0 hg1
   have HWr:Hid (IntKind.i64.wrap ((widL t width).sum+gp)=(widL t width).sum+gp):=by unfold Hid;rw [IntKind.wrap_i64];omega
   go_enter Tryz.func9,Tryz.ntmps9
   go_upto_region 1 with fail
   clear hW0
   go_wp2_with fail
   refine KO.out.mono ?_
   rintro e w1 ⟨rfl,hb1⟩
   have HP1:Hid (Below w.heap.size w w1∧TA w1 z ac ar cc cr t∧w1.heap[w.heap.size]?=some (.cells #[.slice ac t.cols.length cc,.int .i64 t.head,.int .i64 t.foot,.slice ar t.rows.length cr,.int .i64 t.gap] 26)):=⟨k_trans HP.out.1 hb1,HP.out.2.1.kept hb1,(hb1.block _ (bL HP.out.2.2)).trans HP.out.2.2⟩
   clear hb1 KO b0 b1 b2 b3 b4 HP
   go_wp2_with fail
   refine (HIn.out _).mono ?_
   rintro e w2 ⟨rfl,rfl⟩
   clear HIn
   obtain ⟨b0,b1,b2,b3,b4⟩:=fiveO HP1.out.2.2
   have l1:=(bL HP1.out.2.2)
   go_wp2_with fail
   refine (K3O.out _ HP1.out.2.1).mono ?_
   rintro e w3 ⟨ag,cg,rfl,hG,hb3⟩
   have K3:=k_alloc (k_trans HP1.out.1 hb3) (.cells #[.int .i64 (gOf t).rows,.int .i64 (gOf t).cols,.slice ag (gOf t).cells.length cg] 34)
   have HTA:=Hd ((HP1.out.2.1.kept hb3).kept (k_alloc (Below.refl _ _) (.cells #[.int .i64 (gOf t).rows,.int .i64 (gOf t).cols,.slice ag (gOf t).cells.length cg] 34)))
   have HGs:=Hd (hG.kept (k_alloc (Below.refl _ _) (.cells #[.int .i64 (gOf t).rows,.int .i64 (gOf t).cols,.slice ag (gOf t).cells.length cg] 34)))
   have HX:Hid ((w3.alloc (.cells #[.int .i64 (gOf t).rows,.int .i64 (gOf t).cols,.slice ag (gOf t).cells.length cg] 34)).heap[w.heap.size]?=some (.cells #[.slice ac t.cols.length cc,.int .i64 t.head,.int .i64 t.foot,.slice ar t.rows.length cr,.int .i64 t.gap] 26)):=(Below.heap_alloc _ _ _ (Nat.lt_of_lt_of_le l1 hb3.size)).trans ((hb3.block _ l1).trans HP1.out.2.2)
   have HY:Hid ((w3.alloc (.cells #[.int .i64 (gOf t).rows,.int .i64 (gOf t).cols,.slice ag (gOf t).cells.length cg] 34)).heap[w3.heap.size]?=some (.cells #[.int .i64 (gOf t).rows,.int .i64 (gOf t).cols,.slice ag (gOf t).cells.length cg] 34)):=newestB _ _
   have HK3:=Hd K3
   clear hG hb3 K3 b0 b1 b2 b3 b4 l1 HP1 K3O
   go_upto_region 4 with fail
   generalize w3.alloc (.cells #[.int .i64 (gOf t).rows,.int .i64 (gOf t).cols,.slice ag (gOf t).cells.length cg] 34)=W3 at HTA HGs HX HY HK3 ⊢
   generalize w3.heap.size=gb at HGs HY ⊢
   have KL:=Hd (fun W (h:Below W3.heap.size W3 W)=>KL3.out ag cg W (HTA.out.kept h) (HGs.out.kept h))
   have KG:=Hd (fun W=>KG.out ag cg W)
   have hl0:=(bL HX.out)
   have hlg:=(bL HY.out)
   clear KL3
   refine wp_region_inv2 (fun L act W=>∃ v16 v17 v18 v19 v20 v21 v22 v23 v24 v4:Value,act=⟨#[.agg #[.slice ac t.cols.length cc,.int .i64 t.head,.int .i64 t.foot,.slice ar t.rows.length cr,.int .i64 t.gap],.int .i64 width,.pointer (some ⟨w.heap.size,0,none⟩),undef,v4,.pointer (some ⟨gb,0,none⟩),.agg #[.slice ac t.cols.length cc,.int .i64 t.head,.int .i64 t.foot,.slice ar t.rows.length cr,.int .i64 t.gap],.bool true,.bool false,.bool false,.int .i64 width,.bool true,.bool false,.bool false,.agg #[.slice ac t.cols.length cc,.int .i64 t.head,.int .i64 t.foot,.slice ar t.rows.length cr,.int .i64 t.gap],.agg #[.int .i64 (gOf t).rows,.int .i64 (gOf t).cols,.slice ag (gOf t).cells.length cg],v16,v17,v18,v19,v20,v21,v22,v23,v24],[]⟩∧WtJ ac ar ag cc cr cg t width gp W3 L W v16 v17 v18 v19 v20 v21 v22 v23 v24 v4) hmx (by kernel_rfl) ?hs ?hd ?h0
   case h0=>exact ⟨_,_,_,_,_,_,_,_,_,_,rfl,⟨(fun h=>by cases h),(fun h=>by cases h),(fun h=>by cases h),(fun h=>by cases h),(fun h=>by cases h),(fun h=>by cases h),(fun h=>by cases h),(fun h=>by cases h),(fun h=>by cases h),(fun h=>by cases h),k_drew (Below.refl _ _)⟩⟩
   case hd =>
    intro L act W hJ hall
    obtain ⟨v16,v17,v18,v19,v20,v21,v22,v23,v24,v4,ha,J⟩:=hJ
    subst ha
    obtain rfl:=J.f9 (hall 9 (by decide))
    have HB:=Hd (k_trans HK3.out J.b)
    clear J hall
    go_wp2
    go_ret
    exact ⟨by rw [HT.out];rfl,HB.out⟩
   case hs =>
    intro L act W i o hJ hcl ho hLi haft K hK
    obtain ⟨v16,v17,v18,v19,v20,v21,v22,v23,v24,v4,ha,J⟩:=hJ
    subst ha
    have hi':i < 10:=by
     have:=(bL ho)
     simpa using this
    rcases (by omega:i=0∨i=1∨i=2∨i=3∨i=4∨i=5∨i=6∨i=7∨i=8∨i=9) with rfl | rfl | rfl | rfl | rfl | rfl | rfl | rfl | rfl | rfl
    all_goals
     simp only [List.getElem?_toArray,List.getElem?_cons_zero,List.getElem?_cons_succ,Option.some.injEq] at ho
     subst ho
     clear hi'
    ·skip
     obtain ⟨q0,q1,q2,q3,q4⟩:=fiveO ((J.b.block _ hl0).trans HX.out)
     have hl:=Nat.lt_of_lt_of_le hl0 J.b.size
     go_simp
     exact hK _ _ ⟨_,_,_,_,_,_,_,_,_,_,rfl,⟨(fun _=>rfl),(uq J.f1),(uq J.f2),(uq J.f3),(uq J.f4),(uq J.f5),(uq J.f6),(uq J.f7),(uq J.f8),(uq J.f9),J.b⟩⟩
    ·skip
     obtain ⟨q0,q1,q2⟩:=threeO ((J.b.block _ hlg).trans HY.out)
     have hl:=Nat.lt_of_lt_of_le hlg J.b.size
     go_simp
     exact hK _ _ ⟨_,_,_,_,_,_,_,_,_,_,rfl,⟨(uq J.f0),(fun _=>rfl),(uq J.f2),(uq J.f3),(uq J.f4),(uq J.f5),(uq J.f6),(uq J.f7),(uq J.f8),(uq J.f9),J.b⟩⟩
    ·skip
     go_simp
     exact hK _ _ ⟨_,_,_,_,_,_,_,_,_,_,rfl,⟨(uq J.f0),(uq J.f1),(fun _=>rfl),(uq J.f3),(uq J.f4),(uq J.f5),(uq J.f6),(uq J.f7),(uq J.f8),(uq J.f9),J.b⟩⟩
    ·skip
     obtain rfl:=J.f0 (haft ⟨0,.data⟩ (by simp) rfl)
     obtain rfl:=J.f1 (haft ⟨1,.data⟩ (by simp) rfl)
     obtain rfl:=J.f2 (haft ⟨2,.data⟩ (by simp) rfl)
     go_simp
     go_wp2_with (go_at_call 42;refine (KL.out W J.b).mono ?_;rintro e W2 ⟨v,rfl,hR,hb⟩;have hI:=hR.at;clear hR)
     exact ⟨_,_,_,_,_,_,_,_,_,_,rfl,⟨(uq J.f0),(uq J.f1),(uq J.f2),(fun _=>hI),(uq J.f4),(uq J.f5),(uq J.f6),(uq J.f7),(uq J.f8),(uq J.f9),k_trans J.b hb⟩⟩
    ·skip
     have hI:=J.f3 (haft ⟨3,.data⟩ (by simp) rfl)
     obtain ⟨aq,cq,rfl,_⟩:=hI.form
     go_simp
     go_wp2_with (go_at_call 41;refine (specl1Sum_any _ (widL t width) HN.out HA.out W hI).mono ?_;rintro e W2 ⟨rfl,hE⟩;have hb:Below W.heap.size W W2:=(hE ▸ Below.refl _ _);clear hE)
     exact ⟨_,_,_,_,_,_,_,_,_,_,rfl,⟨(uq J.f0),(uq J.f1),(uq J.f2),(fun h=>(J.f3 (un h)).kept hb),(fun _=>rfl),(uq J.f5),(uq J.f6),(uq J.f7),(uq J.f8),(uq J.f9),k_trans J.b hb⟩⟩
    ·skip
     obtain ⟨q0,q1,q2,q3,q4⟩:=fiveO ((J.b.block _ hl0).trans HX.out)
     have hl:=Nat.lt_of_lt_of_le hl0 J.b.size
     go_simp
     exact hK _ _ ⟨_,_,_,_,_,_,_,_,_,_,rfl,⟨(uq J.f0),(uq J.f1),(uq J.f2),(uq J.f3),(uq J.f4),(fun _=>rfl),(uq J.f6),(uq J.f7),(uq J.f8),(uq J.f9),J.b⟩⟩
    ·skip
     obtain ⟨q0,q1,q2⟩:=threeO ((J.b.block _ hlg).trans HY.out)
     have hl:=Nat.lt_of_lt_of_le hlg J.b.size
     go_simp
     exact hK _ _ ⟨_,_,_,_,_,_,_,_,_,_,rfl,⟨(uq J.f0),(uq J.f1),(uq J.f2),(uq J.f3),(uq J.f4),(uq J.f5),(fun _=>rfl),(uq J.f7),(uq J.f8),(uq J.f9),J.b⟩⟩
    ·skip
     obtain rfl:=J.f5 (haft ⟨5,.data⟩ (by simp) rfl)
     obtain rfl:=J.f6 (haft ⟨6,.data⟩ (by simp) rfl)
     go_simp
     go_wp2_with (go_at_call 43;refine (KG.out W).mono ?_;rintro e W2 ⟨rfl,hb⟩)
     exact ⟨_,_,_,_,_,_,_,_,_,_,rfl,⟨(uq J.f0),(uq J.f1),(uq J.f2),(fun h=>(J.f3 (un h)).kept hb),(uq J.f4),(uq J.f5),(uq J.f6),(fun _=>rfl),(uq J.f8),(uq J.f9),k_trans J.b hb⟩⟩
    ·skip
     obtain rfl:=J.f4 (haft ⟨4,.data⟩ (by simp) rfl)
     obtain rfl:=J.f7 (haft ⟨7,.data⟩ (by simp) rfl)
     go_simp
     exact hK _ _ ⟨_,_,_,_,_,_,_,_,_,_,rfl,⟨(uq J.f0),(uq J.f1),(uq J.f2),(uq J.f3),(uq J.f4),(uq J.f5),(uq J.f6),(uq J.f7),(fun _=>by rw [HWr.out]),(uq J.f9),J.b⟩⟩
    ·skip
     obtain rfl:=J.f8 (haft ⟨8,.data⟩ (by simp) rfl)
     go_simp
     exact hK _ _ ⟨_,_,_,_,_,_,_,_,_,_,rfl,⟨(uq J.f0),(uq J.f1),(uq J.f2),(uq J.f3),(uq J.f4),(uq J.f5),(uq J.f6),(uq J.f7),(uq J.f8),(fun _=>rfl),J.b⟩⟩
set_option maxRecDepth 100000 in
set_option maxHeartbeats 1000000 in
theorem specGrdOf (ac ar:Option Addr) (cc cr:Nat) (t:T) (hD:Drawn t) (w:World) {z:Nat} (hc:ColsAt w z (.slice ac t.cols.length cc) t.cols) (hr:RowsAt w z (.slice ar t.rows.length cr) t.rows) :
  Calls Tryz.prog 144 #[.agg #[.slice ac t.cols.length cc,.int .i64 t.head,.int .i64 t.foot,.slice ar t.rows.length cr,.int .i64 t.gap]] w fun e w'=>∃ vg,e=.returned (.agg #[.int .i64 (gOf t).rows,.int .i64 (gOf t).cols,vg])∧OwnG w' w.heap.size vg (gOf t).cells∧Below w.heap.size w w':=by
 obtain ⟨W0,hW0⟩:∃ W0,(w.alloc (.cells #[.slice ac t.cols.length cc,.int .i64 t.head,.int .i64 t.foot,.slice ar t.rows.length cr,.int .i64 t.gap] 26)).alloc (.cells #[.int .i64 0,.int .i64 0,.slice none 0 0] 34)=W0:=⟨_,rfl⟩
 have K0:Below w.heap.size w W0:=by rw [← hW0];exact k_alloc (k_alloc (Below.refl _ _) _) _
 have hz0:W0.heap.size=w.heap.size+2:=by rw [← hW0];simp
 have T0:W0.heap[w.heap.size]?=some (.cells #[.slice ac t.cols.length cc,.int .i64 t.head,.int .i64 t.foot,.slice ar t.rows.length cr,.int .i64 t.gap] 26):=by rw [← hW0];exact (Below.heap_alloc _ _ _ (by simp)).trans (newestB _ _)
 have X0:W0.heap[w.heap.size+1]?=some (.cells #[.int .i64 0,.int .i64 0,.slice none 0 0] 34):=by
  have:=newestB (w.alloc (.cells #[.slice ac t.cols.length cc,.int .i64 t.head,.int .i64 t.foot,.slice ar t.rows.length cr,.int .i64 t.gap] 26)) (.cells #[.int .i64 0,.int .i64 0,.slice none 0 0] 34)
  rw [hW0] at this
  simpa using this
 have KO:=Hd (specTblOk ac ar cc cr t W0 (hc.kept K0) (hr.kept K0))
 have HR:=Hd hr
 obtain ⟨⟨t0,t1,t2,t3,t4⟩,_⟩:=fiveT T0
 clear hc hr
 cases htk:tblB t with
 | false =>
  rw [htk] at KO
  have hg:gOf t=⟨0,0,[]⟩:=by unfold gOf;rw [if_neg (by rw [htk];simp)]
  have HG:=Hd hg
  clear htk hg hD
  go_enter Tryz.func144,Tryz.ntmps144
  go_wp2_with fail
  refine KO.out.mono ?_
  rintro e w1 ⟨rfl,hb1⟩
  have X1:=blk_kept X0 hb1
  have K1:=k_trans K0 hb1
  obtain ⟨⟨x0,x1,x2⟩,y0,y1,y2⟩:=threeZ X1
  have HB:=Hd (((K1.setCell (p:=⟨w.heap.size+1,0,none⟩) (by show _≤w.heap.size+1;omega) (.int .i64 0)).setCell (p:=⟨w.heap.size+1,1,none⟩) (by show _≤w.heap.size+1;omega) (.int .i64 0)).setCell (p:=⟨w.heap.size+1,2,none⟩) (by show _≤w.heap.size+1;omega) (.slice none 0 0))
  clear hb1 K1 X1 KO hW0 t0 t1 t2 t3 t4
  go_wp2
  exact bodyPost_ret (v:=.agg #[.int .i64 0,.int .i64 0,.slice none 0 0]) (by simp [results,Tryz.results144,go_sem,x0,x1,x2]) rfl ⟨.slice none 0 0,by rw [HG.out],by rw [HG.out];exact ⟨rfl,.inl ⟨rfl,rfl⟩⟩,HB.out⟩
 | true =>
  rw [htk] at KO
  have hg:gOf t=⟨t.rows.length,colsOf (max 1 (t.cols.length:Int)) (gridOf t),gridOf t⟩:=by unfold gOf;rw [if_pos htk]
  have HG:=Hd hg
  have HLow:=Hd (low_of htk hD)
  clear htk hg hD
  go_enter Tryz.func144,Tryz.ntmps144
  go_wp2_with fail
  refine KO.out.mono ?_
  rintro e w1 ⟨rfl,hb1⟩
  have X1:=blk_kept X0 hb1
  have T1:=blk_kept T0 hb1
  have K1:=k_trans K0 hb1
  obtain ⟨⟨s0,s1,s2,s3,s4⟩,_⟩:=fiveT T1
  clear KO hW0 t0 t1 t2 t3 t4
  go_wp2_with fail
  refine (l3Of_any ac ar cc cr t HLow.out w1 (HR.out.kept K1)).mono ?_
  rintro e w2 ⟨vg,rfl,hO2,hb2⟩
  have X2:=blk_kept X1 hb2
  have K2:=k_trans K1 hb2
  obtain ⟨va,vq,rfl,_⟩:=row_form hO2
  obtain ⟨⟨x0,x1,x2⟩,y0,y1,y2⟩:=threeZ X2
  have h1:=setB (p:=0) X2 (.int .i64 (t.rows.length:Int))
  have h2:=setB (p:=1) h1 (.int .i64 (colsOf (max 1 (t.cols.length:Int)) (gridOf t)))
  have o1:=row_set (p:=0) hO2 X2 (by decide) (.int .i64 (t.rows.length:Int))
  have o2:=row_set (p:=1) o1 h1 (by decide) (.int .i64 (colsOf (max 1 (t.cols.length:Int)) (gridOf t)))
  have o3:=row_set (p:=2) o2 h2 (by decide) (.slice va (gridOf t).length vq)
  have hz1:w.heap.size≤w1.heap.size:=K1.size
  have HO:=Hd (row_base o3 hz1)
  have HB:=Hd (((K2.setCell (p:=⟨w.heap.size+1,0,none⟩) (by show _≤w.heap.size+1;omega) (.int .i64 (t.rows.length:Int))).setCell (p:=⟨w.heap.size+1,1,none⟩) (by show _≤w.heap.size+1;omega) (.int .i64 (colsOf (max 1 (t.cols.length:Int)) (gridOf t)))).setCell (p:=⟨w.heap.size+1,2,none⟩) (by show _≤w.heap.size+1;omega) (.slice va (gridOf t).length vq))
  clear h1 h2 o1 o2 o3 hO2 hb2 X2 K2 s0 s1 s2 s3 s4 X1 T1 K1 hb1 X0 T0
  generalize hC:colsOf (max 1 (t.cols.length:Int)) (gridOf t)=C at HG HO HB ⊢
  clear hC
  go_wp2
  exact bodyPost_ret (v:=.agg #[.int .i64 (t.rows.length:Int),.int .i64 C,.slice va (gridOf t).length vq]) (by simp [results,Tryz.results144,go_sem,x0,x1,x2]) rfl ⟨_,by rw [HG.out],by rw [HG.out];exact HO.out,HB.out⟩
end Go.Proofs.YtojogjlblgcioanGreat
