/-
  PROVED HERE: the model's l6Cols at a drawn table: the list widL, in memory of its own; nothing that was in memory is turned.
-/
import Derived.Test.YtcbibdhlkdcmiaiGreatE42
import Derived.Test.YtcbibdhlkdcmiaiGreatC34
import Derived.Test.YtcbibdhlkdcmiaiGreatE43
import Derived.Test.YtcbibdhlkdcmiaiGreatE31
namespace Go.Proofs.YtcbibdhlkdcmiaiGreat
open Go.RowKit Go.BigFrame
set_option maxRecDepth 100000 in
set_option maxHeartbeats 1000000 in
theorem specl5Gaps (ac ar:Option Addr) (cc cr:Nat) (t:T) (r:Int) (vg:Value) (C:Nat) (hC:1≤C∧C≤88) (hgap:0≤t.gap∧t.gap≤3) (w:World) :
  Calls Tryz.prog 89 #[.agg #[.slice ac t.cols.length cc,.int .i64 t.head,.int .i64 t.foot,.slice ar t.rows.length cr,.int .i64 t.gap],.agg #[.int .i64 r,.int .i64 (C:Int),vg]] w fun e w'=>e=.returned (.int .i64 (t.gap * ((C:Int) - 1)))∧Below w.heap.size w w':=by
 obtain ⟨m,rfl⟩:∃ m:Nat,C=m+1:=⟨C - 1,by omega⟩
 have e1:((m+1:Nat):Int) - 1=m:=by omega
 have hg1:0≤t.gap * (m:Int):=Int.mul_nonneg hgap.1 (by omega)
 have hg2:t.gap * (m:Int)≤3 * 87:=Int.mul_le_mul hgap.2 (by omega) (by omega) (by omega)
 rw [e1]
 clear e1
 go_enter Tryz.func89,Tryz.ntmps89
 go_wp2
 go_ret
 exact ⟨by go_num,by repeat (first | exact Below.refl _ _ | apply k_alloc)⟩
set_option maxRecDepth 100000 in
set_option maxHeartbeats 2000000 in
theorem specl6Cols (ac ar:Option Addr) (cc cr:Nat) (t:T) (hD:Drawn t) (ag:Option Addr) (cg:Nat) (width:Int) (hw:0≤width∧width≤300) (hok:tblB t=true) (w:World) {z zg:Nat} (hc:ColsAt w z (.slice ac t.cols.length cc) t.cols) (hr:RowsAt w z (.slice ar t.rows.length cr) t.rows) (hg:GsAt w zg (.slice ag (gOf t).cells.length cg) (gOf t).cells) :
  Calls Tryz.prog 47 #[.agg #[.slice ac t.cols.length cc,.int .i64 t.head,.int .i64 t.foot,.slice ar t.rows.length cr,.int .i64 t.gap],.agg #[.int .i64 (gOf t).rows,.int .i64 (gOf t).cols,.slice ag (gOf t).cells.length cg],.int .i64 width] w fun e w'=>∃ v,e=.returned v∧RowI w' w.heap.size w'.heap.size v (widL t width)∧Below w.heap.size w w':=by
 have hmx:Tryz.prog.follows .mixedOrders=true:=by kernel_rfl
 obtain ⟨hC1,hC88,hacr,ha0,ha1,hall⟩:=acr_least hD hok
 obtain ⟨_,C0,hgc0,_,_⟩:=cel_of hD
 have hgc:(gOf t).cols=(colN t:Int):=by rw [colN_of hgc0];exact hgc0
 have hgap:0≤t.gap∧t.gap≤3:=by
  simp only [tblB,inB,Bool.and_eq_true,decide_eq_true_eq] at hok
  exact hok.2.2.1
 have HlL:=Hd (leastL_len t)
 have HwL:=Hd (wishL_len t)
 have hsum0:0≤(leastL t).sum∧(leastL t).sum≤100 * 100000:=by have:=sum_bound hall;have:=leastL_len t;omega
 have hgg:0≤t.gap * ((colN t:Int) - 1)∧t.gap * ((colN t:Int) - 1)≤1000:=⟨Int.mul_nonneg hgap.1 (by omega),Int.le_trans (Int.mul_le_mul hgap.2 (show (colN t:Int) - 1≤87 by omega) (by omega) (by omega)) (by omega)⟩
 have HrV:Hid (restV t width=width - (leastL t).sum - t.gap * ((colN t:Int) - 1)):=by rw [Hid,restV];omega
 have HP:Hid (Ls w z zg ac ar cc cr t ag cg ((w.alloc (.cells #[.slice ac t.cols.length cc,.int .i64 t.head,.int .i64 t.foot,.slice ar t.rows.length cr,.int .i64 t.gap] 33)).alloc (.cells #[.int .i64 (gOf t).rows,.int .i64 (gOf t).cols,.slice ag (gOf t).cells.length cg] 56))):=by
  have K:=k_alloc (k_alloc (Below.refl w.heap.size w) (.cells #[.slice ac t.cols.length cc,.int .i64 t.head,.int .i64 t.foot,.slice ar t.rows.length cr,.int .i64 t.gap] 33)) (.cells #[.int .i64 (gOf t).rows,.int .i64 (gOf t).cols,.slice ag (gOf t).cells.length cg] 56)
  refine ⟨K,⟨hc.kept K,hr.kept K⟩,hg.kept K,(Below.heap_alloc _ _ _ (by simp)).trans (newestB _ _),?_⟩
  have:=newestB (w.alloc (.cells #[.slice ac t.cols.length cc,.int .i64 t.head,.int .i64 t.foot,.slice ar t.rows.length cr,.int .i64 t.gap] 33)) (.cells #[.int .i64 (gOf t).rows,.int .i64 (gOf t).cols,.slice ag (gOf t).cells.length cg] 56)
  simpa using this
 have KL:=Hd (fun W (h:Ls w z zg ac ar cc cr t ag cg W)=>specl5Least ac ar cc cr t hD ag cg W h.2.1.1 h.2.1.2 h.2.2.1 hok)
 have KW:=Hd (fun W (h:Ls w z zg ac ar cc cr t ag cg W)=>specl5Wish ac ar cc cr t hD ag cg W h.2.1.1 h.2.1.2 h.2.2.1 hok)
 have KG:=Hd (fun W=>specl5Gaps ac ar cc cr t (gOf t).rows (.slice ag (gOf t).cells.length cg) (colN t) ⟨hC1,hC88⟩ hgap W)
 generalize t.gap * ((colN t:Int) - 1)=gp at HrV hgg KG
 rw [← hgc] at KG
 have HC:=Hd (And.intro hC1 hC88)
 have HAll:=Hd hall
 have HWu:=Hd (wishL_up hD)
 have HWno:=Hd (fun h=>wid_no (t:=t) (width:=width) h)
 have HWr:=Hd (fun h=>wid_rest (t:=t) (width:=width) h)
 have HSt:=Hd (fun h=>wid_steps hD hok hw h)
 have HSm:=Hd (fun h=>out1_small hD hok hw h)
 clear hc hr hg hacr ha0 ha1 hall hgc0 hgap
 have Hgc:=Hd hgc
 clear hgc hD hok
 go_enter Tryz.func47,Tryz.ntmps47
 go_upto_region 1 with fail
 generalize (w.alloc (.cells #[.slice ac t.cols.length cc,.int .i64 t.head,.int .i64 t.foot,.slice ar t.rows.length cr,.int .i64 t.gap] 33)).alloc (.cells #[.int .i64 (gOf t).rows,.int .i64 (gOf t).cols,.slice ag (gOf t).cells.length cg] 56)=W0 at HP ⊢
 obtain ⟨b0,b1,b2,b3,b4⟩:=fiveO HP.out.2.2.2.1
 obtain ⟨q0,q1,q2⟩:=threeO HP.out.2.2.2.2
 go_wp2_with fail
 refine (KL.out _ HP.out).mono ?_
 rintro e w1 ⟨v1,rfl,hr1,hb⟩
 obtain ⟨ao,co,rfl⟩:=hr1.form
 rw [HlL.out] at hr1 ⊢
 have HRo:=Hd (hr1.base (B':=w.heap.size) HP.out.1.size (Nat.le_refl _))
 have HO:=Hd hr1.at
 replace HP:=Hd (HP.out.kept hb)
 clear hb hr1 b0 b1 b2 b3 b4 q0 q1 q2 KL
 obtain ⟨b0,b1,b2,b3,b4⟩:=fiveO HP.out.2.2.2.1
 obtain ⟨q0,q1,q2⟩:=threeO HP.out.2.2.2.2
 go_wp2_with fail
 refine (KW.out _ HP.out).mono ?_
 rintro e w2 ⟨v2,rfl,hr2,hb⟩
 obtain ⟨aw,cw,rfl⟩:=hr2.form
 rw [HwL.out] at hr2 ⊢
 have HWi:=Hd hr2.at
 replace HRo:=Hd ((HRo.out.kept (fun j h0 _ _=>hb.block j h0)).base (Nat.le_refl _) hb.size)
 replace HO:=Hd (HO.out.kept hb)
 replace HP:=Hd (HP.out.kept hb)
 clear hb hr2 b0 b1 b2 b3 b4 q0 q1 q2 KW
 have ht0:=(bL HP.out.2.2.2.1)
 have hg0:=(bL HP.out.2.2.2.2)
 have hne:=bw_some w2
 obtain ⟨b0,b1,b2,b3,b4⟩:=fiveO HP.out.2.2.2.1
 obtain ⟨q0,q1,q2⟩:=threeO HP.out.2.2.2.2
 have m0:=bw_cell ht0 b0
 have m1:=bw_cell ht0 b1
 have m2:=bw_cell ht0 b2
 have m3:=bw_cell ht0 b3
 have m4:=bw_cell ht0 b4
 have n0:=bw_cell hg0 q0
 have n1:=bw_cell hg0 q1
 have n2:=bw_cell hg0 q2
 have KS:=Hd (fun (p:BW w2)=>bw_same (specl1Sum_any _ (leastL t) (by have:=leastL_len t;have:=HC.out.2;omega) HAll.out p.u (HO.out.kept p.h)))
 have KGq:=Hd (fun (p:BW w2)=>bw_of (KG.out p.u))
 generalize (leastL t).sum=s at HrV hsum0 KS
 clear b0 b1 b2 b3 b4 q0 q1 q2 KG
 go_upto_region 3 with fail
 refine wp_region_quiet_below hmx (by kernel_rfl) ?_
 repeat (go_big_quiet_step (first | (go_at_call 88;refine KS.out _) | (go_at_call 89;refine KGq.out _)))
 refine wpQuiet_nil ?_
 intro W3 hw'
 obtain ⟨⟨Wx,hb⟩,hw''⟩:=hw'
 subst hw''
 replace HRo:=Hd ((HRo.out.kept (fun j h0 _ _=>hb.block j h0)).base (Nat.le_refl _) hb.size)
 replace HO:=Hd (HO.out.kept hb)
 replace HWi:=Hd (HWi.out.kept hb)
 replace HP:=Hd (HP.out.kept hb)
 clear m0 m1 m2 m3 m4 n0 n1 n2 hne hb KS KGq ht0 hg0
 rw [← HrV.out]
 by_cases hV:restV t width≤0
 ·have HE:=Hd (HWno.out hV)
  go_wp2
  go_ret
  exact ⟨_,rfl,by rw [HE.out];exact HRo.out,HP.out.1⟩
 have hVp:0 < restV t width:=by omega
 obtain ⟨ok1,ok2,hl2,ho1,ho2,_,_⟩:=HSt.out hVp
 have HE:=Hd (HWr.out hVp)
 have Hok1:=Hd ok1
 have Hok2:=Hd ok2
 have Ho1:=Hd ho1
 have Ho2:=Hd ho2
 have Hs1:=Hd (HSm.out hVp)
 have hle1:0≤left1 t width∧left1 t width≤100000:=(shrOk_parts ok2).1
 have hle0:=(shrOk_parts ok1).1
 clear ok1 ok2 ho1 ho2 HSt HSm HWr HWno HrV HRo
 obtain ⟨b0,b1,b2,b3,b4⟩:=fiveO HP.out.2.2.2.1
 go_wp2_with fail
 refine (specl6Wants2 ac ar cc cr t width hw (leastL t) (colN t) HC.out.2 rfl HlL.out HAll.out ao aw co cw _ HP.out.2.1.1 HO.out).mono ?_
 rintro e w4 ⟨v4,rfl,hr4,hb⟩
 obtain ⟨a4,c4,rfl⟩:=hr4.form
 rw [want1_len,HlL.out] at hr4 ⊢
 replace HO:=Hd (HO.out.kept hb)
 replace HWi:=Hd (HWi.out.kept hb)
 replace HP:=Hd (HP.out.kept hb)
 have HX:=Hd hr4.at
 clear hr4 hb b0 b1 b2 b3 b4
 go_wp2_with fail
 refine (specl4UpTo (restV t width) _ (want1 t width (leastL t)) Hok1.out _ HX.out).mono ?_
 rintro e w5 ⟨v5,rfl,hr5,hb⟩
 obtain ⟨a5,c5,rfl⟩:=hr5.form
 have hu1:=(upTo_total Hok1.out).1
 rw [want1_len,HlL.out] at hu1
 rw [hu1] at hr5 ⊢
 replace HO:=Hd (HO.out.kept hb)
 replace HWi:=Hd (HWi.out.kept hb)
 replace HP:=Hd (HP.out.kept hb)
 have HX5:=Hd hr5.at
 have HuL:=Hd hu1
 clear hr5 hb HX hu1
 go_wp2_with fail
 refine (specl6Add _ _ (leastL t) (upToL (restV t width) (want1 t width (leastL t))) (by rw [HuL.out,HlL.out]) (by rw [HlL.out];exact HC.out.2) HAll.out (upTo_small Hok1.out) _ HO.out HX5.out).mono ?_
 rintro e w6 ⟨v6,rfl,hr6,hb⟩
 obtain ⟨a6,c6,rfl⟩:=hr6.form
 have hr6:RowI w6 w5.heap.size w6.heap.size (.slice a6 (out1 t width).length c6) (out1 t width):=hr6
 rw [Ho1.out] at hr6
 rw [show (addL (leastL t) (upToL (restV t width) (want1 t width (leastL t)))).length=colN t from Ho1.out]
 rw [show upToN (restV t width) (want1 t width (leastL t))=left1 t width from rfl]
 replace HWi:=Hd (HWi.out.kept hb)
 replace HP:=Hd (HP.out.kept hb)
 have HO1:=Hd hr6.at
 clear hr6 hb HX5 HO HuL
 obtain ⟨b0,b1,b2,b3,b4⟩:=fiveO HP.out.2.2.2.1
 go_wp2_with fail
 refine (specl6Wants0 ac ar cc cr t width (out1 t width) (colN t) HC.out.2 Ho1.out Hs1.out.1 a6 aw c6 cw _ HP.out.2.1.1 HO1.out HWi.out HWu.out HwL.out).mono ?_
 rintro e w7 ⟨v7,rfl,hr7,hb⟩
 obtain ⟨a7,c7,rfl⟩:=hr7.form
 rw [want2_len,Ho1.out] at hr7 ⊢
 replace HO1:=Hd (HO1.out.kept hb)
 replace HP:=Hd (HP.out.kept hb)
 have HX:=Hd hr7.at
 clear hr7 hb b0 b1 b2 b3 b4 HWi
 go_wp2_with fail
 refine (specl4UpTo (left1 t width) _ (want2 t (out1 t width)) Hok2.out _ HX.out).mono ?_
 rintro e w8 ⟨v8,rfl,hr8,hb⟩
 obtain ⟨a8,c8,rfl⟩:=hr8.form
 have hu2:=(upTo_total Hok2.out).1
 rw [want2_len,Ho1.out] at hu2
 rw [hu2] at hr8 ⊢
 replace HO1:=Hd (HO1.out.kept hb)
 replace HP:=Hd (HP.out.kept hb)
 have HX8:=Hd hr8.at
 have HuL:=Hd hu2
 clear hr8 hb HX hu2
 go_wp2_with fail
 refine (specl6Add _ _ (out1 t width) (upToL (left1 t width) (want2 t (out1 t width))) (by rw [HuL.out,Ho1.out]) (by rw [Ho1.out];exact HC.out.2) Hs1.out.1 (upTo_small Hok2.out) _ HO1.out HX8.out).mono ?_
 rintro e w9 ⟨v9,rfl,hr9,hb⟩
 obtain ⟨a9,c9,rfl⟩:=hr9.form
 have hr9:RowI w9 w8.heap.size w9.heap.size (.slice a9 (out2 t width).length c9) (out2 t width):=hr9
 rw [Ho2.out] at hr9
 rw [show (addL (out1 t width) (upToL (left1 t width) (want2 t (out1 t width)))).length=colN t from Ho2.out]
 rw [show upToN (left1 t width) (want2 t (out1 t width))=left2 t width from rfl]
 have HR2:=Hd (hr9.base (B':=w.heap.size) HP.out.1.size (Nat.le_refl _))
 replace HP:=Hd (HP.out.kept hb)
 clear hr9 hb HX8 HO1 HuL
 obtain ⟨b0,b1,b2,b3,b4⟩:=fiveO HP.out.2.2.2.1
 go_wp2_with fail
 refine (specl6Of ac ar cc cr t 0 (colN t) HC.out.2 _ HP.out.2.1.1).mono ?_
 rintro e w10 ⟨v10,rfl,hr10,hb⟩
 obtain ⟨a10,c10,rfl⟩:=hr10.form
 rw [oneL_len] at hr10 ⊢
 replace HR2:=Hd ((HR2.out.kept (fun j h0 _ _=>hb.block j h0)).base (Nat.le_refl _) hb.size)
 replace HP:=Hd (HP.out.kept hb)
 have HA0:=Hd hr10.at
 clear hr10 hb b0 b1 b2 b3 b4
 have Hone:=Hd (fun q=>(shrOk_parts (oneL_ok (kindP t q) (n:=colN t) (t:=0) (by omega) (by have:=HC.out.2;omega))).2.2)
 have HlE:=Hd (fun q=>oneL_len (kindP t q) (colN t))
 have HsE:=Hd (fun q=>oneL_sum (P:=kindP t q) (n:=colN t))
 have HC88:Hid (colN t≤88):=HC.out.2
 by_cases hn0:0 < (selN (kindP t 0) (colN t)).length
 ·have hz0:(((selN (kindP t 0) (colN t)).length:Int) == 0)=false:=beq_eq_false_iff_ne.2 (by omega)
  go_wp2_with fail
  refine (specl1Sum_any _ (oneL (kindP t 0) (colN t)) (by rw [HlE.out];have:=HC88.out;omega) (Hone.out 0) _ HA0.out).mono ?_
  rintro e wx ⟨rfl,ex⟩
  cases ex
  rw [HsE.out 0]
  go_wp2_with fail
  refine (specl1Sum_any _ (oneL (kindP t 0) (colN t)) (by rw [HlE.out];have:=HC88.out;omega) (Hone.out 0) _ HA0.out).mono ?_
  rintro e wx ⟨rfl,ex⟩
  cases ex
  rw [HsE.out 0]
  go_wp2_with fail
  refine (specl4Share (left2 t width) _ (oneL (kindP t 0) (colN t)) (oneL_ok _ (by omega) (by have:=HC88.out;omega)) _ HA0.out).mono ?_
  rintro e w13 ⟨v13,rfl,hr13,hb⟩
  obtain ⟨a13,c13,rfl⟩:=hr13.form
  have hsl:=shareL_len (oneL_ok (kindP t 0) (n:=colN t) (t:=left2 t width) (by omega) (by have:=HC88.out;omega))
  rw [oneL_len] at hsl
  have HSl:=Hd hsl
  rw [hsl] at hr13 ⊢
  replace HR2:=Hd ((HR2.out.kept (fun j h0 _ _=>hb.block j h0)).base (Nat.le_refl _) hb.size)
  replace HP:=Hd (HP.out.kept hb)
  have HX13:=Hd hr13.at
  clear hr13 hb hsl
  go_wp2_with fail
  refine (specl6Add _ _ (out2 t width) (shareL (left2 t width) (oneL (kindP t 0) (colN t))) (by rw [HSl.out,Ho2.out]) (by rw [Ho2.out];exact HC88.out) Hs1.out.2 (share_small (oneL_ok (kindP t 0) (n:=colN t) (t:=left2 t width) (by omega) (by have:=HC88.out;omega)) (by rw [oneL_len];have:=HC.out.1;omega)) _ HR2.out.at HX13.out).mono ?_
  rintro e w14 ⟨v14,rfl,hr14,hb⟩
  obtain ⟨a14,c14,rfl⟩:=hr14.form
  have HR14:=Hd (hr14.base (B':=w.heap.size) HP.out.1.size (Nat.le_refl _))
  replace HP:=Hd (HP.out.kept hb)
  clear hr14 hb HX13 HR2
  go_wp2
  go_ret
  exact ⟨_,rfl,by rw [HE.out,restL,if_pos hn0];exact HR14.out,HP.out.1⟩
 ·have hl0:(selN (kindP t 0) (colN t)).length=0:=by omega
  go_wp2_with fail
  refine (specl1Sum_any _ (oneL (kindP t 0) (colN t)) (by rw [HlE.out];have:=HC88.out;omega) (Hone.out 0) _ HA0.out).mono ?_
  rintro e wx ⟨rfl,ex⟩
  cases ex
  rw [HsE.out 0]
  rw [hl0]
  obtain ⟨b0,b1,b2,b3,b4⟩:=fiveO HP.out.2.2.2.1
  go_wp2_with fail
  refine (specl6Of ac ar cc cr t 2 (colN t) HC88.out _ HP.out.2.1.1).mono ?_
  rintro e w12 ⟨v12,rfl,hr12,hb⟩
  obtain ⟨a12,c12,rfl⟩:=hr12.form
  rw [oneL_len] at hr12 ⊢
  replace HR2:=Hd ((HR2.out.kept (fun j h0 _ _=>hb.block j h0)).base (Nat.le_refl _) hb.size)
  replace HP:=Hd (HP.out.kept hb)
  have HA2:=Hd hr12.at
  clear hr12 hb b0 b1 b2 b3 b4 HA0
  by_cases hn2:0 < (selN (kindP t 2) (colN t)).length
  ·have hz2:(((selN (kindP t 2) (colN t)).length:Int) == 0)=false:=beq_eq_false_iff_ne.2 (by omega)
   go_wp2_with fail
   refine (specl1Sum_any _ (oneL (kindP t 2) (colN t)) (by rw [HlE.out];have:=HC88.out;omega) (Hone.out 2) _ HA2.out).mono ?_
   rintro e wx ⟨rfl,ex⟩
   cases ex
   rw [HsE.out 2]
   go_wp2_with fail
   refine (specl4Share (left2 t width) _ (oneL (kindP t 2) (colN t)) (oneL_ok _ (by omega) (by have:=HC88.out;omega)) _ HA2.out).mono ?_
   rintro e w13 ⟨v13,rfl,hr13,hb⟩
   obtain ⟨a13,c13,rfl⟩:=hr13.form
   have hsl:=shareL_len (oneL_ok (kindP t 2) (n:=colN t) (t:=left2 t width) (by omega) (by have:=HC88.out;omega))
   rw [oneL_len] at hsl
   have HSl:=Hd hsl
   rw [hsl] at hr13 ⊢
   replace HR2:=Hd ((HR2.out.kept (fun j h0 _ _=>hb.block j h0)).base (Nat.le_refl _) hb.size)
   replace HP:=Hd (HP.out.kept hb)
   have HX13:=Hd hr13.at
   clear hr13 hb hsl
   go_wp2_with fail
   refine (specl6Add _ _ (out2 t width) (shareL (left2 t width) (oneL (kindP t 2) (colN t))) (by rw [HSl.out,Ho2.out]) (by rw [Ho2.out];exact HC88.out) Hs1.out.2 (share_small (oneL_ok (kindP t 2) (n:=colN t) (t:=left2 t width) (by omega) (by have:=HC88.out;omega)) (by rw [oneL_len];have:=HC.out.1;omega)) _ HR2.out.at HX13.out).mono ?_
   rintro e w14 ⟨v14,rfl,hr14,hb⟩
   obtain ⟨a14,c14,rfl⟩:=hr14.form
   have HR14:=Hd (hr14.base (B':=w.heap.size) HP.out.1.size (Nat.le_refl _))
   replace HP:=Hd (HP.out.kept hb)
   clear hr14 hb HX13 HR2
   go_wp2
   go_ret
   exact ⟨_,rfl,by rw [HE.out,restL,if_neg (by omega),if_pos hn2];exact HR14.out,HP.out.1⟩
  ·have hl2':(selN (kindP t 2) (colN t)).length=0:=by omega
   go_wp2_with fail
   refine (specl1Sum_any _ (oneL (kindP t 2) (colN t)) (by rw [HlE.out];have:=HC88.out;omega) (Hone.out 2) _ HA2.out).mono ?_
   rintro e wx ⟨rfl,ex⟩
   cases ex
   rw [HsE.out 2]
   rw [hl2']
   go_wp2
   go_ret
   exact ⟨_,rfl,by rw [HE.out,restL,if_neg (by omega),if_neg (by omega)];exact HR2.out,HP.out.1⟩
end Go.Proofs.YtcbibdhlkdcmiaiGreat
