/-
  PROVED HERE: the model's l6Cols at a drawn table: the list widL, in memory of its own; nothing that was in memory is turned. Also: the model's HgtLines at a drawn table and any width; nothing that was in memory is turned. Also: lines put together are the text; a line that is wider than told is a single word; plain theory. Also: the heights of rows while they are reckoned: those that are done, the one that is reckoned, noughts. Also: how high the rows of a drawn table are, as a list; what the program adds to a row is what is lacking. Also: the lines of each cell, put together, are its text, and none is wider than the cell: facts on lists, of a drawn table. Also: the laws' own pwTexts says true of one and the same list of texts in two places, and words are a list of texts in memory. Also: the laws' own pwAll says true of one and the same list of lists of texts in two places; nothing that was in memory is turned.
-/
import Derived.Test.YtcbibdhlkdcmiafGreatB41
import Derived.Test.YtcbibdhlkdcmiafGreatB36
import Derived.Test.YtcbibdhlkdcmiafGreatB42
import Derived.Test.YtcbibdhlkdcmiafGreatB32
import Derived.Test.YtcbibdhlkdcmiafGreatB40
import Derived.Test.YtcbibdhlkdcmiafGreatB38
import Derived.Test.YtcbibdhlkdcmiafGreatB39
import Derived.Test.YtcbibdhlkdcmiafGreatB12
import Derived.Test.YtcbibdhlkdcmiafGreatB13
import Derived.Test.YtcbibdhlkdcmiafGreatB17
import Derived.Test.YtcbibdhlkdcmiafGreatB33
import Derived.Test.YtcbibdhlkdcmiafGreatB34
import Derived.Test.YtcbibdhlkdcmiafGreatB31
import Derived.Test.YtcbibdhlkdcmiafGreatB24
import Derived.Deep.DeepCutAuto
import Derived.Deep.RegionWith
namespace Go.Proofs.YtcbibdhlkdcmiafGreat
open Go.RowKit Go.BigFrame

set_option maxRecDepth 100000 in
set_option maxHeartbeats 1000000 in
theorem specl5Gaps (ac ar:Option Addr) (cc cr:Nat) (t:T) (r:Int) (vg:Value) (C:Nat) (hC:1≤C∧C≤88) (hgap:0≤t.gap∧t.gap≤3) (w:World) :
  Calls Tryz.prog 50 #[.agg #[.slice ac t.cols.length cc,.int .i64 t.head,.int .i64 t.foot,.slice ar t.rows.length cr,.int .i64 t.gap],.agg #[.int .i64 r,.int .i64 (C:Int),vg]] w fun e w'=>e=.returned (.int .i64 (t.gap * ((C:Int) - 1)))∧Below w.heap.size w w':=by
 obtain ⟨m,rfl⟩:∃ m:Nat,C=m+1:=⟨C - 1,by omega⟩
 have e1:((m+1:Nat):Int) - 1=m:=by omega
 have hg1:0≤t.gap * (m:Int):=Int.mul_nonneg hgap.1 (by omega)
 have hg2:t.gap * (m:Int)≤3 * 87:=Int.mul_le_mul hgap.2 (by omega) (by omega) (by omega)
 rw [e1]
 clear e1
 go_enter Tryz.func50,Tryz.ntmps50
 go_wp2
 go_ret
 exact ⟨by go_num,by repeat (first | exact Below.refl _ _ | apply k_alloc)⟩
set_option maxRecDepth 100000 in
set_option maxHeartbeats 2000000 in
theorem specl6Cols (ac ar:Option Addr) (cc cr:Nat) (t:T) (hD:Drawn t) (ag:Option Addr) (cg:Nat) (width:Int) (hw:0≤width∧width≤300) (hok:tblB t=true) (w:World) {z zg:Nat} (hc:ColsAt w z (.slice ac t.cols.length cc) t.cols) (hr:RowsAt w z (.slice ar t.rows.length cr) t.rows) (hg:GsAt w zg (.slice ag (gOf t).cells.length cg) (gOf t).cells) :
  Calls Tryz.prog 41 #[.agg #[.slice ac t.cols.length cc,.int .i64 t.head,.int .i64 t.foot,.slice ar t.rows.length cr,.int .i64 t.gap],.agg #[.int .i64 (gOf t).rows,.int .i64 (gOf t).cols,.slice ag (gOf t).cells.length cg],.int .i64 width] w fun e w'=>∃ v,e=.returned v∧RowI w' w.heap.size w'.heap.size v (widL t width)∧Below w.heap.size w w':=by
 have hmx:Tryz.prog.follows .mixedOrders=true:=by kernel_rfl
 obtain ⟨hC1,hC88,hacr,ha0,ha1,hall⟩:=acr_least hD hok
 obtain ⟨_,C0,hgc0,_,_⟩:=cel_of hD
 have hgc:(gOf t).cols=(colN t:Int):=by rw [colN_of hgc0];exact hgc0
 have hgap:0≤t.gap∧t.gap≤3:=by
  simp only [tblB,inB,Bool.and_eq_true,decide_eq_true_eq] at hok
  exact hok.2.2.1
 have HlL:=Hid.intro (leastL_len t)
 have HwL:=Hid.intro (wishL_len t)
 have hsum0:0≤(leastL t).sum∧(leastL t).sum≤100 * 100000:=by have:=sum_bound hall;have:=leastL_len t;omega
 have hgg:0≤t.gap * ((colN t:Int) - 1)∧t.gap * ((colN t:Int) - 1)≤1000:=⟨Int.mul_nonneg hgap.1 (by omega),Int.le_trans (Int.mul_le_mul hgap.2 (show (colN t:Int) - 1≤87 by omega) (by omega) (by omega)) (by omega)⟩
 have HrV:Hid (restV t width=width - (leastL t).sum - t.gap * ((colN t:Int) - 1)):=by rw [Hid,restV];omega
 have HP:Hid (Ls w z zg ac ar cc cr t ag cg ((w.alloc (.cells #[.slice ac t.cols.length cc,.int .i64 t.head,.int .i64 t.foot,.slice ar t.rows.length cr,.int .i64 t.gap] 26)).alloc (.cells #[.int .i64 (gOf t).rows,.int .i64 (gOf t).cols,.slice ag (gOf t).cells.length cg] 46))):=by
  have K:=k_alloc (k_alloc (Below.refl w.heap.size w) (.cells #[.slice ac t.cols.length cc,.int .i64 t.head,.int .i64 t.foot,.slice ar t.rows.length cr,.int .i64 t.gap] 26)) (.cells #[.int .i64 (gOf t).rows,.int .i64 (gOf t).cols,.slice ag (gOf t).cells.length cg] 46)
  refine ⟨K,⟨hc.kept K,hr.kept K⟩,hg.kept K,(Below.heap_alloc _ _ _ (by simp)).trans (newestB _ _),?_⟩
  have:=newestB (w.alloc (.cells #[.slice ac t.cols.length cc,.int .i64 t.head,.int .i64 t.foot,.slice ar t.rows.length cr,.int .i64 t.gap] 26)) (.cells #[.int .i64 (gOf t).rows,.int .i64 (gOf t).cols,.slice ag (gOf t).cells.length cg] 46)
  simpa using this
 have KL:=Hid.intro (fun W (h:Ls w z zg ac ar cc cr t ag cg W)=>specl5Least ac ar cc cr t hD ag cg W h.2.1.1 h.2.1.2 h.2.2.1 hok)
 have KW:=Hid.intro (fun W (h:Ls w z zg ac ar cc cr t ag cg W)=>specl5Wish ac ar cc cr t hD ag cg W h.2.1.1 h.2.1.2 h.2.2.1 hok)
 have KG:=Hid.intro (fun W=>specl5Gaps ac ar cc cr t (gOf t).rows (.slice ag (gOf t).cells.length cg) (colN t) ⟨hC1,hC88⟩ hgap W)
 generalize t.gap * ((colN t:Int) - 1)=gp at HrV hgg KG
 rw [← hgc] at KG
 have HC:=Hid.intro (And.intro hC1 hC88)
 have HAll:=Hid.intro hall
 have HWu:=Hid.intro (wishL_up hD)
 have HWno:=Hid.intro (fun h=>wid_no (t:=t) (width:=width) h)
 have HWr:=Hid.intro (fun h=>wid_rest (t:=t) (width:=width) h)
 have HSt:=Hid.intro (fun h=>wid_steps hD hok hw h)
 have HSm:=Hid.intro (fun h=>out1_small hD hok hw h)
 clear hc hr hg hacr ha0 ha1 hall hgc0 hgap
 have Hgc:=Hid.intro hgc
 clear hgc hD hok
 go_enter Tryz.func41,Tryz.ntmps41
 go_upto_region 1 with fail
 generalize (w.alloc (.cells #[.slice ac t.cols.length cc,.int .i64 t.head,.int .i64 t.foot,.slice ar t.rows.length cr,.int .i64 t.gap] 26)).alloc (.cells #[.int .i64 (gOf t).rows,.int .i64 (gOf t).cols,.slice ag (gOf t).cells.length cg] 46)=W0 at HP ⊢
 obtain ⟨b0,b1,b2,b3,b4⟩:=fiveO HP.out.2.2.2.1
 obtain ⟨q0,q1,q2⟩:=threeO HP.out.2.2.2.2
 go_wp2_with fail
 refine (KL.out _ HP.out).mono ?_
 rintro e w1 ⟨v1,rfl,hr1,hb⟩
 obtain ⟨ao,co,rfl⟩:=hr1.form
 rw [HlL.out] at hr1 ⊢
 have HRo:=Hid.intro (hr1.base (B':=w.heap.size) HP.out.1.size (Nat.le_refl _))
 have HO:=Hid.intro hr1.at
 replace HP:=Hid.intro (HP.out.kept hb)
 clear hb hr1 b0 b1 b2 b3 b4 q0 q1 q2 KL
 obtain ⟨b0,b1,b2,b3,b4⟩:=fiveO HP.out.2.2.2.1
 obtain ⟨q0,q1,q2⟩:=threeO HP.out.2.2.2.2
 go_wp2_with fail
 refine (KW.out _ HP.out).mono ?_
 rintro e w2 ⟨v2,rfl,hr2,hb⟩
 obtain ⟨aw,cw,rfl⟩:=hr2.form
 rw [HwL.out] at hr2 ⊢
 have HWi:=Hid.intro hr2.at
 replace HRo:=Hid.intro ((HRo.out.kept (fun j h0 _ _=>hb.block j h0)).base (Nat.le_refl _) hb.size)
 replace HO:=Hid.intro (HO.out.kept hb)
 replace HP:=Hid.intro (HP.out.kept hb)
 clear hb hr2 b0 b1 b2 b3 b4 q0 q1 q2 KW
 have ht0:=(Array.getElem?_eq_some_iff.1 HP.out.2.2.2.1).1
 have hg0:=(Array.getElem?_eq_some_iff.1 HP.out.2.2.2.2).1
 have hne:=bw_some w2
 obtain ⟨b0,b1,b2,b3,b4⟩:=fiveO HP.out.2.2.2.1
 obtain ⟨q0,q1,q2⟩:=threeO HP.out.2.2.2.2
 have m0:=bw_cell ht0 b0
 have m1:=bw_cell ht0 b1
 have m2:=bw_cell ht0 b2
 have m3:=bw_cell ht0 b3
 have m4:=bw_cell ht0 b4
 have n0:=bw_cell hg0 q0
 have n1:=bw_cell hg0 q1
 have n2:=bw_cell hg0 q2
 have KS:=Hid.intro (fun (p:BW w2)=>bw_same (specl1Sum_any _ (leastL t) (by have:=leastL_len t;have:=HC.out.2;omega) HAll.out p.u (HO.out.kept p.h)))
 have KGq:=Hid.intro (fun (p:BW w2)=>bw_of (KG.out p.u))
 generalize (leastL t).sum=s at HrV hsum0 KS
 clear b0 b1 b2 b3 b4 q0 q1 q2 KG
 go_upto_region 3 with fail
 refine wp_region_quiet_below hmx (by kernel_rfl) ?_
 repeat (go_big_quiet_step (first | (go_at_call 49;refine KS.out _) | (go_at_call 50;refine KGq.out _)))
 refine wpQuiet_nil ?_
 intro W3 hw'
 obtain ⟨⟨Wx,hb⟩,hw''⟩:=hw'
 subst hw''
 replace HRo:=Hid.intro ((HRo.out.kept (fun j h0 _ _=>hb.block j h0)).base (Nat.le_refl _) hb.size)
 replace HO:=Hid.intro (HO.out.kept hb)
 replace HWi:=Hid.intro (HWi.out.kept hb)
 replace HP:=Hid.intro (HP.out.kept hb)
 clear m0 m1 m2 m3 m4 n0 n1 n2 hne hb KS KGq ht0 hg0
 rw [← HrV.out]
 by_cases hV:restV t width≤0
 ·have HE:=Hid.intro (HWno.out hV)
  go_wp2
  go_ret
  exact ⟨_,rfl,by rw [HE.out];exact HRo.out,HP.out.1⟩
 have hVp:0 < restV t width:=by omega
 obtain ⟨ok1,ok2,hl2,ho1,ho2,_,_⟩:=HSt.out hVp
 have HE:=Hid.intro (HWr.out hVp)
 have Hok1:=Hid.intro ok1
 have Hok2:=Hid.intro ok2
 have Ho1:=Hid.intro ho1
 have Ho2:=Hid.intro ho2
 have Hs1:=Hid.intro (HSm.out hVp)
 have hle1:0≤left1 t width∧left1 t width≤100000:=(shrOk_parts ok2).1
 have hle0:=(shrOk_parts ok1).1
 clear ok1 ok2 ho1 ho2 HSt HSm HWr HWno HrV HRo
 obtain ⟨b0,b1,b2,b3,b4⟩:=fiveO HP.out.2.2.2.1
 go_wp2_with fail
 refine (specl6Wants2 ac ar cc cr t width hw (leastL t) (colN t) HC.out.2 rfl HlL.out HAll.out ao aw co cw _ HP.out.2.1.1 HO.out).mono ?_
 rintro e w4 ⟨v4,rfl,hr4,hb⟩
 obtain ⟨a4,c4,rfl⟩:=hr4.form
 rw [want1_len,HlL.out] at hr4 ⊢
 replace HO:=Hid.intro (HO.out.kept hb)
 replace HWi:=Hid.intro (HWi.out.kept hb)
 replace HP:=Hid.intro (HP.out.kept hb)
 have HX:=Hid.intro hr4.at
 clear hr4 hb b0 b1 b2 b3 b4
 go_wp2_with fail
 refine (specl4UpTo (restV t width) _ (want1 t width (leastL t)) Hok1.out _ HX.out).mono ?_
 rintro e w5 ⟨v5,rfl,hr5,hb⟩
 obtain ⟨a5,c5,rfl⟩:=hr5.form
 have hu1:=(upTo_total Hok1.out).1
 rw [want1_len,HlL.out] at hu1
 rw [hu1] at hr5 ⊢
 replace HO:=Hid.intro (HO.out.kept hb)
 replace HWi:=Hid.intro (HWi.out.kept hb)
 replace HP:=Hid.intro (HP.out.kept hb)
 have HX5:=Hid.intro hr5.at
 have HuL:=Hid.intro hu1
 clear hr5 hb HX hu1
 go_wp2_with fail
 refine (specl6Add _ _ (leastL t) (upToL (restV t width) (want1 t width (leastL t))) (by rw [HuL.out,HlL.out]) (by rw [HlL.out];exact HC.out.2) HAll.out (upTo_small Hok1.out) _ HO.out HX5.out).mono ?_
 rintro e w6 ⟨v6,rfl,hr6,hb⟩
 obtain ⟨a6,c6,rfl⟩:=hr6.form
 have hr6:RowI w6 w5.heap.size w6.heap.size (.slice a6 (out1 t width).length c6) (out1 t width):=hr6
 rw [Ho1.out] at hr6
 rw [show (addL (leastL t) (upToL (restV t width) (want1 t width (leastL t)))).length=colN t from Ho1.out]
 rw [show upToN (restV t width) (want1 t width (leastL t))=left1 t width from rfl]
 replace HWi:=Hid.intro (HWi.out.kept hb)
 replace HP:=Hid.intro (HP.out.kept hb)
 have HO1:=Hid.intro hr6.at
 clear hr6 hb HX5 HO HuL
 obtain ⟨b0,b1,b2,b3,b4⟩:=fiveO HP.out.2.2.2.1
 go_wp2_with fail
 refine (specl6Wants0 ac ar cc cr t width (out1 t width) (colN t) HC.out.2 Ho1.out Hs1.out.1 a6 aw c6 cw _ HP.out.2.1.1 HO1.out HWi.out HWu.out HwL.out).mono ?_
 rintro e w7 ⟨v7,rfl,hr7,hb⟩
 obtain ⟨a7,c7,rfl⟩:=hr7.form
 rw [want2_len,Ho1.out] at hr7 ⊢
 replace HO1:=Hid.intro (HO1.out.kept hb)
 replace HP:=Hid.intro (HP.out.kept hb)
 have HX:=Hid.intro hr7.at
 clear hr7 hb b0 b1 b2 b3 b4 HWi
 go_wp2_with fail
 refine (specl4UpTo (left1 t width) _ (want2 t (out1 t width)) Hok2.out _ HX.out).mono ?_
 rintro e w8 ⟨v8,rfl,hr8,hb⟩
 obtain ⟨a8,c8,rfl⟩:=hr8.form
 have hu2:=(upTo_total Hok2.out).1
 rw [want2_len,Ho1.out] at hu2
 rw [hu2] at hr8 ⊢
 replace HO1:=Hid.intro (HO1.out.kept hb)
 replace HP:=Hid.intro (HP.out.kept hb)
 have HX8:=Hid.intro hr8.at
 have HuL:=Hid.intro hu2
 clear hr8 hb HX hu2
 go_wp2_with fail
 refine (specl6Add _ _ (out1 t width) (upToL (left1 t width) (want2 t (out1 t width))) (by rw [HuL.out,Ho1.out]) (by rw [Ho1.out];exact HC.out.2) Hs1.out.1 (upTo_small Hok2.out) _ HO1.out HX8.out).mono ?_
 rintro e w9 ⟨v9,rfl,hr9,hb⟩
 obtain ⟨a9,c9,rfl⟩:=hr9.form
 have hr9:RowI w9 w8.heap.size w9.heap.size (.slice a9 (out2 t width).length c9) (out2 t width):=hr9
 rw [Ho2.out] at hr9
 rw [show (addL (out1 t width) (upToL (left1 t width) (want2 t (out1 t width)))).length=colN t from Ho2.out]
 rw [show upToN (left1 t width) (want2 t (out1 t width))=left2 t width from rfl]
 have HR2:=Hid.intro (hr9.base (B':=w.heap.size) HP.out.1.size (Nat.le_refl _))
 replace HP:=Hid.intro (HP.out.kept hb)
 clear hr9 hb HX8 HO1 HuL
 obtain ⟨b0,b1,b2,b3,b4⟩:=fiveO HP.out.2.2.2.1
 go_wp2_with fail
 refine (specl6Of ac ar cc cr t 0 (colN t) HC.out.2 _ HP.out.2.1.1).mono ?_
 rintro e w10 ⟨v10,rfl,hr10,hb⟩
 obtain ⟨a10,c10,rfl⟩:=hr10.form
 rw [oneL_len] at hr10 ⊢
 replace HR2:=Hid.intro ((HR2.out.kept (fun j h0 _ _=>hb.block j h0)).base (Nat.le_refl _) hb.size)
 replace HP:=Hid.intro (HP.out.kept hb)
 have HA0:=Hid.intro hr10.at
 clear hr10 hb b0 b1 b2 b3 b4
 have Hone:=Hid.intro (fun q=>(shrOk_parts (oneL_ok (kindP t q) (n:=colN t) (t:=0) (by omega) (by have:=HC.out.2;omega))).2.2)
 have HlE:=Hid.intro (fun q=>oneL_len (kindP t q) (colN t))
 have HsE:=Hid.intro (fun q=>oneL_sum (P:=kindP t q) (n:=colN t))
 have HC88:Hid (colN t≤88):=HC.out.2
 by_cases hn0:0 < (selN (kindP t 0) (colN t)).length
 ·have hz0:(((selN (kindP t 0) (colN t)).length:Int) == 0)=false:=beq_eq_false_iff_ne.2 (by omega)
  go_wp2_with fail
  refine (specl1Sum_any _ (oneL (kindP t 0) (colN t)) (by rw [HlE.out];have:=HC88.out;omega) (Hone.out 0) _ HA0.out).mono ?_
  rintro e wx ⟨rfl,ex⟩
  cases ex
  rw [HsE.out 0]
  go_wp2_with fail
  refine (specl1Sum_any _ (oneL (kindP t 0) (colN t)) (by rw [HlE.out];have:=HC88.out;omega) (Hone.out 0) _ HA0.out).mono ?_
  rintro e wx ⟨rfl,ex⟩
  cases ex
  rw [HsE.out 0]
  go_wp2_with fail
  refine (specl4Share (left2 t width) _ (oneL (kindP t 0) (colN t)) (oneL_ok _ (by omega) (by have:=HC88.out;omega)) _ HA0.out).mono ?_
  rintro e w13 ⟨v13,rfl,hr13,hb⟩
  obtain ⟨a13,c13,rfl⟩:=hr13.form
  have hsl:=shareL_len (oneL_ok (kindP t 0) (n:=colN t) (t:=left2 t width) (by omega) (by have:=HC88.out;omega))
  rw [oneL_len] at hsl
  have HSl:=Hid.intro hsl
  rw [hsl] at hr13 ⊢
  replace HR2:=Hid.intro ((HR2.out.kept (fun j h0 _ _=>hb.block j h0)).base (Nat.le_refl _) hb.size)
  replace HP:=Hid.intro (HP.out.kept hb)
  have HX13:=Hid.intro hr13.at
  clear hr13 hb hsl
  go_wp2_with fail
  refine (specl6Add _ _ (out2 t width) (shareL (left2 t width) (oneL (kindP t 0) (colN t))) (by rw [HSl.out,Ho2.out]) (by rw [Ho2.out];exact HC88.out) Hs1.out.2 (share_small (oneL_ok (kindP t 0) (n:=colN t) (t:=left2 t width) (by omega) (by have:=HC88.out;omega)) (by rw [oneL_len];have:=HC.out.1;omega)) _ HR2.out.at HX13.out).mono ?_
  rintro e w14 ⟨v14,rfl,hr14,hb⟩
  obtain ⟨a14,c14,rfl⟩:=hr14.form
  have HR14:=Hid.intro (hr14.base (B':=w.heap.size) HP.out.1.size (Nat.le_refl _))
  replace HP:=Hid.intro (HP.out.kept hb)
  clear hr14 hb HX13 HR2
  go_wp2
  go_ret
  exact ⟨_,rfl,by rw [HE.out,restL,if_pos hn0];exact HR14.out,HP.out.1⟩
 ·have hl0:(selN (kindP t 0) (colN t)).length=0:=by omega
  go_wp2_with fail
  refine (specl1Sum_any _ (oneL (kindP t 0) (colN t)) (by rw [HlE.out];have:=HC88.out;omega) (Hone.out 0) _ HA0.out).mono ?_
  rintro e wx ⟨rfl,ex⟩
  cases ex
  rw [HsE.out 0]
  rw [hl0]
  obtain ⟨b0,b1,b2,b3,b4⟩:=fiveO HP.out.2.2.2.1
  go_wp2_with fail
  refine (specl6Of ac ar cc cr t 2 (colN t) HC88.out _ HP.out.2.1.1).mono ?_
  rintro e w12 ⟨v12,rfl,hr12,hb⟩
  obtain ⟨a12,c12,rfl⟩:=hr12.form
  rw [oneL_len] at hr12 ⊢
  replace HR2:=Hid.intro ((HR2.out.kept (fun j h0 _ _=>hb.block j h0)).base (Nat.le_refl _) hb.size)
  replace HP:=Hid.intro (HP.out.kept hb)
  have HA2:=Hid.intro hr12.at
  clear hr12 hb b0 b1 b2 b3 b4 HA0
  by_cases hn2:0 < (selN (kindP t 2) (colN t)).length
  ·have hz2:(((selN (kindP t 2) (colN t)).length:Int) == 0)=false:=beq_eq_false_iff_ne.2 (by omega)
   go_wp2_with fail
   refine (specl1Sum_any _ (oneL (kindP t 2) (colN t)) (by rw [HlE.out];have:=HC88.out;omega) (Hone.out 2) _ HA2.out).mono ?_
   rintro e wx ⟨rfl,ex⟩
   cases ex
   rw [HsE.out 2]
   go_wp2_with fail
   refine (specl4Share (left2 t width) _ (oneL (kindP t 2) (colN t)) (oneL_ok _ (by omega) (by have:=HC88.out;omega)) _ HA2.out).mono ?_
   rintro e w13 ⟨v13,rfl,hr13,hb⟩
   obtain ⟨a13,c13,rfl⟩:=hr13.form
   have hsl:=shareL_len (oneL_ok (kindP t 2) (n:=colN t) (t:=left2 t width) (by omega) (by have:=HC88.out;omega))
   rw [oneL_len] at hsl
   have HSl:=Hid.intro hsl
   rw [hsl] at hr13 ⊢
   replace HR2:=Hid.intro ((HR2.out.kept (fun j h0 _ _=>hb.block j h0)).base (Nat.le_refl _) hb.size)
   replace HP:=Hid.intro (HP.out.kept hb)
   have HX13:=Hid.intro hr13.at
   clear hr13 hb hsl
   go_wp2_with fail
   refine (specl6Add _ _ (out2 t width) (shareL (left2 t width) (oneL (kindP t 2) (colN t))) (by rw [HSl.out,Ho2.out]) (by rw [Ho2.out];exact HC88.out) Hs1.out.2 (share_small (oneL_ok (kindP t 2) (n:=colN t) (t:=left2 t width) (by omega) (by have:=HC88.out;omega)) (by rw [oneL_len];have:=HC.out.1;omega)) _ HR2.out.at HX13.out).mono ?_
   rintro e w14 ⟨v14,rfl,hr14,hb⟩
   obtain ⟨a14,c14,rfl⟩:=hr14.form
   have HR14:=Hid.intro (hr14.base (B':=w.heap.size) HP.out.1.size (Nat.le_refl _))
   replace HP:=Hid.intro (HP.out.kept hb)
   clear hr14 hb HX13 HR2
   go_wp2
   go_ret
   exact ⟨_,rfl,by rw [HE.out,restL,if_neg (by omega),if_pos hn2];exact HR14.out,HP.out.1⟩
  ·have hl2':(selN (kindP t 2) (colN t)).length=0:=by omega
   go_wp2_with fail
   refine (specl1Sum_any _ (oneL (kindP t 2) (colN t)) (by rw [HlE.out];have:=HC88.out;omega) (Hone.out 2) _ HA2.out).mono ?_
   rintro e wx ⟨rfl,ex⟩
   cases ex
   rw [HsE.out 2]
   rw [hl2']
   go_wp2
   go_ret
   exact ⟨_,rfl,by rw [HE.out,restL,if_neg (by omega),if_neg (by omega)];exact HR2.out,HP.out.1⟩
end Go.Proofs.YtcbibdhlkdcmiafGreat
namespace Go.Proofs.YtcbibdhlkdcmiafGreat
open Go.RowKit

structure HgLJ (ac ar ag:Option Addr) (cc cr cg:Nat) (t:T) (width:Int) (l:List Int) (ls:List (List ByteArray)) (rs:List Int) (zz:Nat) (W3:World) (L:Nat→Bool) (W:World) (v17 v18 v19 v20 v21 v22 v23 v4:Value):Prop where
 f0:L 0=true→v17=.agg #[.slice ac t.cols.length cc,.int .i64 t.head,.int .i64 t.foot,.slice ar t.rows.length cr,.int .i64 t.gap]
 f1:L 1=true→v18=.agg #[.int .i64 (gOf t).rows,.int .i64 (gOf t).cols,.slice ag (gOf t).cells.length cg]
 f2:L 2=true→v19=.agg #[.slice ac t.cols.length cc,.int .i64 t.head,.int .i64 t.foot,.slice ar t.rows.length cr,.int .i64 t.gap]
 f3:L 3=true→v20=.agg #[.int .i64 (gOf t).rows,.int .i64 (gOf t).cols,.slice ag (gOf t).cells.length cg]
 f4:L 4=true→v21=.int .i64 width
 f5:L 5=true→IntsAt W v22 l
 f6:L 6=true→LlsAt W zz v23 ls
 f7:L 7=true→LlsAt W zz v4 ls
 b:Below W3.heap.size W3 W

theorem lls_lit0 (w:World) (B:Nat) (_:B≤w.heap.size):LlsAt (w.alloc (.cells #[] 51)) B (.slice (some ⟨w.heap.size,0,none⟩) 0 0) []:=⟨_,0,rfl,Nat.le_refl _,Nat.zero_le _,fun _ hi=>absurd hi (Nat.not_lt_zero _)⟩
set_option maxRecDepth 100000 in
set_option maxHeartbeats 2000000 in
theorem specHgtLines (ac ar:Option Addr) (cc cr:Nat) (t:T) (hD:Drawn t) (width:Int) (w:World) {z:Nat} (hc:ColsAt w z (.slice ac t.cols.length cc) t.cols) (hr:RowsAt w z (.slice ar t.rows.length cr) t.rows) :
  Calls Tryz.prog 26 #[.agg #[.slice ac t.cols.length cc,.int .i64 t.head,.int .i64 t.foot,.slice ar t.rows.length cr,.int .i64 t.gap],.int .i64 width] w fun e w'=>∃ v,e=.returned v∧LlsAt w' w.heap.size v (linesT t width)∧Below w.heap.size w w':=by
 have hmx:Tryz.prog.follows .mixedOrders=true:=by kernel_rfl
 obtain ⟨W0,hW0⟩:∃ W0,w.alloc (.cells #[.slice ac t.cols.length cc,.int .i64 t.head,.int .i64 t.foot,.slice ar t.rows.length cr,.int .i64 t.gap] 26)=W0:=⟨_,rfl⟩
 have K0:Below w.heap.size w W0:=by rw [← hW0];exact k_alloc (Below.refl _ _) _
 have X0:W0.heap[w.heap.size]?=some (.cells #[.slice ac t.cols.length cc,.int .i64 t.head,.int .i64 t.foot,.slice ar t.rows.length cr,.int .i64 t.gap] 26):=by rw [← hW0];exact newestB _ _
 have HP:Hid (Below w.heap.size w W0∧TA W0 z ac ar cc cr t∧W0.heap[w.heap.size]?=some (.cells #[.slice ac t.cols.length cc,.int .i64 t.head,.int .i64 t.foot,.slice ar t.rows.length cr,.int .i64 t.gap] 26)):=⟨K0,⟨hc.kept K0,hr.kept K0⟩,X0⟩
 have KO:=Hid.intro (specTblOk ac ar cc cr t W0 HP.out.2.1.1 HP.out.2.1.2)
 obtain ⟨b0,b1,b2,b3,b4⟩:=fiveO X0
 clear hc hr K0 X0
 cases htk:tblB t with
 | false =>
  rw [htk] at KO
  have HE:Hid (linesT t width=[]):=by rw [Hid,linesT,htk];rfl
  clear htk
  go_enter Tryz.func26,Tryz.ntmps26
  go_upto_region 1 with fail
  clear hW0
  go_wp2_with fail
  refine KO.out.mono ?_
  rintro e w1 ⟨rfl,hb1⟩
  have HK1:=Hid.intro (k_trans HP.out.1 hb1)
  clear hb1 KO b0 b1 b2 b3 b4 HP
  go_wp2
  go_ret
  exact ⟨_,rfl,by rw [HE.out];exact lls_lit0 _ _ HK1.out.size,k_alloc HK1.out _⟩
 | true =>
  rw [htk] at KO
  have HIn:=Hid.intro (l1In_any width 0 300)
  cases hin:inB width 0 300 with
  | false =>
   have HE:Hid (linesT t width=[]):=by rw [Hid,linesT,htk,hin];rfl
   rw [hin] at HIn
   clear htk hin hD
   go_enter Tryz.func26,Tryz.ntmps26
   go_upto_region 1 with fail
   clear hW0
   go_wp2_with fail
   refine KO.out.mono ?_
   rintro e w1 ⟨rfl,hb1⟩
   have HK1:=Hid.intro (k_trans HP.out.1 hb1)
   clear hb1 KO b0 b1 b2 b3 b4 HP
   go_wp2_with fail
   refine (HIn.out _).mono ?_
   rintro e w2 ⟨rfl,rfl⟩
   go_wp2
   go_ret
   exact ⟨_,rfl,by rw [HE.out];exact lls_lit0 _ _ HK1.out.size,k_alloc HK1.out _⟩
  | true =>
   have hw:0≤width∧width≤300:=by simpa [inB] using hin
   have K3:=Hid.intro (fun W h=>l3Of_g ac ar cc cr t hD htk W (z:=z) h)
   have KL0:=Hid.intro (fun ag cg W zg h1 h2 h3=>specl6Cols ac ar cc cr t hD ag cg width hw htk W (z:=z) (zg:=zg) h1 h2 h3)
   obtain ⟨_,hlw,_⟩:=acr_wid hD htk hw
   obtain ⟨_,hC88,_⟩:=acr_least hD htk
   have hl1:(widL t width).length≤1048576:=by rw [hlw];omega
   have K70:=Hid.intro (fun ag cg al cl n W zg (h1:TA W z ac ar cc cr t) h2 h3=>specl7Lines ac ar ag al cc cr cg cl n t hD (widL t width) hl1 W (z:=z) (zg:=zg) h1 h2 h3)
   have HE:Hid (linesT t width=linesL t (widL t width) (gOf t).cells):=by rw [Hid,linesT,htk,hin];rfl
   rw [hin] at HIn
   clear htk hin hD hlw hC88 hl1
   generalize linesL t (widL t width) (gOf t).cells=ls at K70 HE
   generalize widL t width=l at KL0 K70
   obtain ⟨rs,_⟩:∃ rs:List Int,rs=[]:=⟨_,rfl⟩
   go_enter Tryz.func26,Tryz.ntmps26
   go_upto_region 1 with fail
   clear hW0
   go_wp2_with fail
   refine KO.out.mono ?_
   rintro e w1 ⟨rfl,hb1⟩
   have HP1:Hid (Below w.heap.size w w1∧TA w1 z ac ar cc cr t∧w1.heap[w.heap.size]?=some (.cells #[.slice ac t.cols.length cc,.int .i64 t.head,.int .i64 t.foot,.slice ar t.rows.length cr,.int .i64 t.gap] 26)):=⟨k_trans HP.out.1 hb1,HP.out.2.1.kept hb1,(hb1.block _ (Array.getElem?_eq_some_iff.1 HP.out.2.2).1).trans HP.out.2.2⟩
   clear hb1 KO b0 b1 b2 b3 b4 HP
   go_wp2_with fail
   refine (HIn.out _).mono ?_
   rintro e w1 ⟨rfl,rfl⟩
   obtain ⟨b0,b1,b2,b3,b4⟩:=fiveO HP1.out.2.2
   have ht1:=(Array.getElem?_eq_some_iff.1 HP1.out.2.2).1
   go_wp2_with fail
   refine (K3.out _ HP1.out.2.1.2).mono ?_
   rintro e w2 ⟨ag,cg,rfl,hG2,hb2⟩
   have KA:=k_alloc (Below.refl w2.heap.size w2) (.cells #[.int .i64 (gOf t).rows,.int .i64 (gOf t).cols,.slice ag (gOf t).cells.length cg] 46)
   have HG3:=Hid.intro (hG2.kept KA)
   have HT3:=Hid.intro ((HP1.out.2.1.kept hb2).kept KA)
   have HK3:=Hid.intro (k_trans (k_trans HP1.out.1 hb2) KA)
   have HX:=Hid.intro ((k_trans hb2 KA).block _ ht1 |>.trans HP1.out.2.2)
   have HY:=Hid.intro (newestB w2 (.cells #[.int .i64 (gOf t).rows,.int .i64 (gOf t).cols,.slice ag (gOf t).cells.length cg] 46))
   have hlg:w2.heap.size < (w2.alloc (.cells #[.int .i64 (gOf t).rows,.int .i64 (gOf t).cols,.slice ag (gOf t).cells.length cg] 46)).heap.size:=by simp
   clear hG2 hb2 KA b0 b1 b2 b3 b4 HP1 K3 HIn ht1
   go_upto_region 4 with fail
   generalize w2.alloc (.cells #[.int .i64 (gOf t).rows,.int .i64 (gOf t).cols,.slice ag (gOf t).cells.length cg] 46)=W3 at HG3 HT3 HK3 HX HY hlg ⊢
   generalize w2.heap.size=gb at HY hlg HG3 ⊢
   have hl0:=(Array.getElem?_eq_some_iff.1 HX.out).1
   have HZ:Hid (w.heap.size≤W3.heap.size):=HK3.out.size
   have KL:=Hid.intro (fun W (h:Below W3.heap.size W3 W)=>KL0.out ag cg W _ (HT3.out.kept h).1 (HT3.out.kept h).2 (HG3.out.kept h))
   have K7:=Hid.intro (fun W (h:Below W3.heap.size W3 W) al cl (hI:IntsAt W (.slice al l.length cl) l)=>K70.out ag cg al cl l.length W _ (HT3.out.kept h) (HG3.out.kept h) hI)
   clear KL0 K70
   refine wp_region_inv2 (fun L act W=>∃ v17 v18 v19 v20 v21 v22 v23 v4:Value,act=⟨#[.agg #[.slice ac t.cols.length cc,.int .i64 t.head,.int .i64 t.foot,.slice ar t.rows.length cr,.int .i64 t.gap],.int .i64 width,.pointer (some ⟨w.heap.size,0,none⟩),undef,v4,.pointer (some ⟨gb,0,none⟩),.agg #[.slice ac t.cols.length cc,.int .i64 t.head,.int .i64 t.foot,.slice ar t.rows.length cr,.int .i64 t.gap],.bool true,.bool false,.bool false,.int .i64 width,.bool true,.bool false,.bool false,undef,.agg #[.slice ac t.cols.length cc,.int .i64 t.head,.int .i64 t.foot,.slice ar t.rows.length cr,.int .i64 t.gap],.agg #[.int .i64 (gOf t).rows,.int .i64 (gOf t).cols,.slice ag (gOf t).cells.length cg],v17,v18,v19,v20,v21,v22,v23],[]⟩∧HgLJ ac ar ag cc cr cg t width l ls rs w.heap.size W3 L W v17 v18 v19 v20 v21 v22 v23 v4) hmx (by kernel_rfl) ?hs ?hd ?h0
   case h0=>exact ⟨_,_,_,_,_,_,_,_,rfl,⟨(fun h=>by cases h),(fun h=>by cases h),(fun h=>by cases h),(fun h=>by cases h),(fun h=>by cases h),(fun h=>by cases h),(fun h=>by cases h),(fun h=>by cases h),k_drew (Below.refl _ _)⟩⟩
   case hd =>
    intro L act W hJ hall
    obtain ⟨v17,v18,v19,v20,v21,v22,v23,v4,ha,J⟩:=hJ
    subst ha
    have HF:=Hid.intro (J.f7 (hall 7 (by decide)))
    have HB:=Hid.intro (k_trans HK3.out J.b)
    clear J hall
    go_wp2
    go_ret
    exact ⟨_,rfl,by rw [HE.out];exact HF.out,HB.out⟩
   case hs =>
    intro L act W i o hJ hcl ho hLi haft K hK
    obtain ⟨v17,v18,v19,v20,v21,v22,v23,v4,ha,J⟩:=hJ
    subst ha
    have hi':i < 8:=by
     have:=(Array.getElem?_eq_some_iff.1 ho).1
     simpa using this
    rcases (by omega:i=0∨i=1∨i=2∨i=3∨i=4∨i=5∨i=6∨i=7) with rfl | rfl | rfl | rfl | rfl | rfl | rfl | rfl
    all_goals
     simp only [List.getElem?_toArray,List.getElem?_cons_zero,List.getElem?_cons_succ,Option.some.injEq] at ho
     subst ho
     clear hi'
    ·skip
     obtain ⟨q0,q1,q2,q3,q4⟩:=fiveO ((J.b.block _ hl0).trans HX.out)
     have hl:=Nat.lt_of_lt_of_le hl0 J.b.size
     go_simp
     exact hK _ _ ⟨_,_,_,_,_,_,_,_,rfl,⟨(fun _=>rfl),(fun h=>J.f1 (un h)),(fun h=>J.f2 (un h)),(fun h=>J.f3 (un h)),(fun h=>J.f4 (un h)),(fun h=>J.f5 (un h)),(fun h=>J.f6 (un h)),(fun h=>J.f7 (un h)),J.b⟩⟩
    ·skip
     obtain ⟨q0,q1,q2⟩:=threeO ((J.b.block _ hlg).trans HY.out)
     have hl:=Nat.lt_of_lt_of_le hlg J.b.size
     go_simp
     exact hK _ _ ⟨_,_,_,_,_,_,_,_,rfl,⟨(fun h=>J.f0 (un h)),(fun _=>rfl),(fun h=>J.f2 (un h)),(fun h=>J.f3 (un h)),(fun h=>J.f4 (un h)),(fun h=>J.f5 (un h)),(fun h=>J.f6 (un h)),(fun h=>J.f7 (un h)),J.b⟩⟩
    ·skip
     obtain ⟨q0,q1,q2,q3,q4⟩:=fiveO ((J.b.block _ hl0).trans HX.out)
     have hl:=Nat.lt_of_lt_of_le hl0 J.b.size
     go_simp
     exact hK _ _ ⟨_,_,_,_,_,_,_,_,rfl,⟨(fun h=>J.f0 (un h)),(fun h=>J.f1 (un h)),(fun _=>rfl),(fun h=>J.f3 (un h)),(fun h=>J.f4 (un h)),(fun h=>J.f5 (un h)),(fun h=>J.f6 (un h)),(fun h=>J.f7 (un h)),J.b⟩⟩
    ·skip
     obtain ⟨q0,q1,q2⟩:=threeO ((J.b.block _ hlg).trans HY.out)
     have hl:=Nat.lt_of_lt_of_le hlg J.b.size
     go_simp
     exact hK _ _ ⟨_,_,_,_,_,_,_,_,rfl,⟨(fun h=>J.f0 (un h)),(fun h=>J.f1 (un h)),(fun h=>J.f2 (un h)),(fun _=>rfl),(fun h=>J.f4 (un h)),(fun h=>J.f5 (un h)),(fun h=>J.f6 (un h)),(fun h=>J.f7 (un h)),J.b⟩⟩
    ·skip
     go_simp
     exact hK _ _ ⟨_,_,_,_,_,_,_,_,rfl,⟨(fun h=>J.f0 (un h)),(fun h=>J.f1 (un h)),(fun h=>J.f2 (un h)),(fun h=>J.f3 (un h)),(fun _=>rfl),(fun h=>J.f5 (un h)),(fun h=>J.f6 (un h)),(fun h=>J.f7 (un h)),J.b⟩⟩
    ·skip
     obtain rfl:=J.f2 (haft ⟨2,.data⟩ (by simp) rfl)
     obtain rfl:=J.f3 (haft ⟨3,.data⟩ (by simp) rfl)
     obtain rfl:=J.f4 (haft ⟨4,.data⟩ (by simp) rfl)
     go_simp
     go_wp2_with (go_at_call 41;refine (KL.out W J.b).mono ?_;rintro e W2 ⟨v,rfl,hR,hb⟩;have hI:=hR.at;clear hR)
     exact ⟨_,_,_,_,_,_,_,_,rfl,⟨(fun h=>J.f0 (un h)),(fun h=>J.f1 (un h)),(fun h=>J.f2 (un h)),(fun h=>J.f3 (un h)),(fun h=>J.f4 (un h)),(fun _=>hI),(fun h=>(J.f6 (un h)).kept hb),(fun h=>(J.f7 (un h)).kept hb),k_trans J.b hb⟩⟩
    ·skip
     obtain rfl:=J.f0 (haft ⟨0,.data⟩ (by simp) rfl)
     obtain rfl:=J.f1 (haft ⟨1,.data⟩ (by simp) rfl)
     have hI:=J.f5 (haft ⟨5,.data⟩ (by simp) rfl)
     obtain ⟨aq,cq,rfl,_⟩:=hI.form
     go_simp
     go_wp2_with (go_at_call 58;refine (K7.out W J.b _ _ hI).mono ?_;rintro e W2 ⟨v,rfl,hR,hb⟩;have hI2:=hR.base (z':=w.heap.size) (Nat.le_trans HZ.out J.b.size);clear hR)
     exact ⟨_,_,_,_,_,_,_,_,rfl,⟨(fun h=>J.f0 (un h)),(fun h=>J.f1 (un h)),(fun h=>J.f2 (un h)),(fun h=>J.f3 (un h)),(fun h=>J.f4 (un h)),(fun h=>(J.f5 (un h)).kept hb),(fun _=>hI2),(fun h=>(J.f7 (un h)).kept hb),k_trans J.b hb⟩⟩
    ·skip
     have hI2:=J.f6 (haft ⟨6,.data⟩ (by simp) rfl)
     go_simp
     exact hK _ _ ⟨_,_,_,_,_,_,_,_,rfl,⟨(fun h=>J.f0 (un h)),(fun h=>J.f1 (un h)),(fun h=>J.f2 (un h)),(fun h=>J.f3 (un h)),(fun h=>J.f4 (un h)),(fun h=>J.f5 (un h)),(fun h=>J.f6 (un h)),(fun _=>hI2),J.b⟩⟩
end Go.Proofs.YtcbibdhlkdcmiafGreat
namespace Go.Proofs.YtcbibdhlkdcmiafGreat
open Go.RowKit

theorem out_empty (q:Int):lnOut (lnSt q [])=[]:=by
 show (if 0 < (ByteArray.mk #[]).size then _ else _)=_
 rw [if_neg (by decide)]
 rfl
theorem out_pos {q:Int} {st:List ByteArray × ByteArray} (hok:LnOk st) (x:W30):(lnOut (stepLn q st x.1)).length ≠ 0:=by
 by_cases h:(lnOut st).length=0
 ·rw [out_nil hok h];simp
 ·by_cases hq:q < ((lastLn (lnOut st)).size:Int)+1+x.1.size
  ·rw [out_break hok h x hq];simp
  ·rw [out_fits hok h x hq];simpa using h
theorem join_step {q:Int} {st:List ByteArray × ByteArray} (hok:LnOk st) (x:W30):joinL (lnOut (stepLn q st x.1))=if (lnOut st).length=0 then x.1 else joinL (lnOut st) ++ ⟨#[32]⟩ ++ x.1:=by
 by_cases h:(lnOut st).length=0
 ·rw [if_pos h,out_nil hok h,List.eq_nil_of_length_eq_zero h]
  rfl
 ·rw [if_neg h]
  have hne:lnOut st ≠ []:=fun e=>h (by rw [e];rfl)
  by_cases hq:q < ((lastLn (lnOut st)).size:Int)+1+x.1.size
  ·rw [out_break hok h x hq,joinL_snoc _ _ hne]
  ·rw [out_fits hok h x hq]
   obtain ⟨_,e1,e2⟩:=out_line h hok
   rw [e2,e1,List.length_append,List.length_singleton,Nat.add_sub_cancel,List.set_append_right _ _ (Nat.le_refl _),Nat.sub_self,List.set_cons_zero]
   by_cases h1:st.1=[]
   ·rw [h1];rfl
   ·rw [joinL_snoc _ _ h1,joinL_snoc _ _ h1]
    simp only [app_assoc]
theorem join_lines (q:Int) (ws:List W30):∀ k,k≤ws.length→joinL (lnOut (lnSt q (ws.take k)))=joinL ((ws.take k).map (fun x=>x.1))∧((lnOut (lnSt q (ws.take k))).length=0 ↔ k=0)
 | 0,_=>by
  rw [List.take_zero]
  rw [out_empty]
  exact ⟨rfl,by simp⟩
 | k+1,hk=>by
  obtain ⟨h1,h2⟩:=join_lines q ws k (by omega)
  have hlt:k < ws.length:=by omega
  have ht:(ws.take (k+1)).map (fun x=>x.1)=(ws.take k).map (fun x=>x.1) ++ [ws[k].1]:=by
   rw [List.take_add_one,List.map_append,List.getElem?_eq_getElem hlt];rfl
  rw [lnSt_take hlt,join_step (lnOk_all q _),h1,ht]
  refine ⟨?_,⟨fun e=>absurd e (out_pos (lnOk_all q _) _),fun e=>by omega⟩⟩
  by_cases h0:k=0
  ·rw [if_pos (h2.2 h0)]
   subst h0
   rfl
  ·rw [if_neg (fun e=>h0 (h2.1 e)),joinL_snoc]
   intro e
   have:=congrArg List.length e
   simp only [List.length_map,List.length_take,List.length_nil] at this
   omega
theorem lines_text {s:ByteArray} (hok:txtOkB s=true) (q:Int):joinTo (lnOut (lnSt q (wordsW s))) (lnOut (lnSt q (wordsW s))).length=s:=by
 have h:=(join_lines q (wordsW s) (wordsW s).length (Nat.le_refl _)).1
 rw [List.take_length] at h
 rw [joinTo_take _ _ (Nat.le_refl _),List.take_length,h]
 have:=join_words hok
 rw [joinTo_take _ _ (Nat.le_refl _),List.take_length] at this
 exact this
end Go.Proofs.YtcbibdhlkdcmiafGreat
namespace Go.Proofs.YtcbibdhlkdcmiafGreat
open Go.RowKit

def rcOf (x:GC) (l:List ByteArray):RCell:=(x.row.toNat,x.rows.toNat,(l.length:Int))
def rcs (gs:List GC) (ls:List (List ByteArray)):List RCell:=List.zipWith rcOf gs ls
def curV (cs:List RCell) (r k:Nat):Int:=(cs.take k).foldl (rowStep (rowsL cs r)) 0
def hsL (cs:List RCell) (R r k:Nat):List Int:=rowsL cs r ++ (curV cs r k :: zeroL (R - (r+1)))
end Go.Proofs.YtcbibdhlkdcmiafGreat
namespace Go.Proofs.YtcbibdhlkdcmiafGreat
open Go.RowKit

def rowsOfT (t:T) (l:List Int):List Int:=rowsL (rcs (gOf t).cells (linesL t l (gOf t).cells)) t.rows.length
/-- how high rows are, if the table may be so wide -/
def rowsT (t:T) (width:Int):List Int:=if (tblB t && inB width 0 300)=true then rowsOfT t (widL t width) else []
end Go.Proofs.YtcbibdhlkdcmiafGreat
namespace Go.Proofs.YtcbibdhlkdcmiafGreat
open Go.RowKit

theorem text_ok {t:T} {C:Nat} {x:GC} (hok:tblB t=true) (hx:Cel t C x):txtOkB (textOf t x)=true:=by
 obtain ⟨rn,jn,cn,mn,e1,e2,e3,e4,h1,h2,_⟩:=hx.ex
 simp only [tblB,Bool.and_eq_true] at hok
 have h3:=List.all_eq_true.1 hok.2.2.2.2 (t.rows.getD rn dR) (getD_mem' (d:=dR) h1)
 simp only [rowB,Bool.and_eq_true] at h3
 have h4:=List.all_eq_true.1 h3.2 ((t.rows.getD rn dR).cells.getD jn dC) (getD_mem' (d:=dC) h2)
 simp only [cB,cellOkB,Bool.and_eq_true] at h4
 unfold textOf
 rw [e1,e2,Int.toNat_natCast,Int.toNat_natCast]
 exact h4.1
theorem least_mem (ws:List W30):∀ x ∈ ws,x.1.size≤leastOf ws:=by
 have h:∀ (l:List W30) (n:Nat),n≤l.foldl (fun n x=>max n x.1.size) n∧∀ x ∈ l,x.1.size≤l.foldl (fun n x=>max n x.1.size) n:=by
  intro l
  induction l with
  | nil=>intro n;exact ⟨Nat.le_refl _,fun x hx=>by cases hx⟩
  | cons y l ih =>
   intro n
   rw [List.foldl_cons]
   obtain ⟨h1,h2⟩:=ih (max n y.1.size)
   refine ⟨by omega,fun x hx=>?_⟩
   rcases List.mem_cons.1 hx with rfl | hx
   ·omega
   ·exact h2 x hx
 exact (h ws 0).2
structure HlF (t:T) (WL:List Int) (LL:List (List ByteArray)):Prop where
 ends:(LL.length=(gOf t).cells.length)∨WL.length=0
 le:LL.length≤(gOf t).cells.length
 join:∀ k,k < LL.length→joinTo (LL.getD k []) (LL.getD k []).length=textOf t ((gOf t).cells.getD k dG)∧totS (LL.getD k [])≤1048576
 wide:∀ k,k < LL.length→∀ y ∈ LL.getD k [],¬ cellV WL t.gap ((gOf t).cells.getD k dG) < (y.size:Int)
theorem hl_facts {t:T} (hD:Drawn t) (x:Int):HlF t (widT t x) (linesT t x):=by
 unfold widT linesT
 by_cases h:(tblB t && inB x 0 300)=true
 case neg =>
  rw [if_neg h,if_neg h]
  exact ⟨.inr rfl,Nat.zero_le _,fun k hk=>absurd hk (Nat.not_lt_zero _),fun k hk=>absurd hk (Nat.not_lt_zero _)⟩
 rw [if_pos h,if_pos h]
 rw [Bool.and_eq_true] at h
 obtain ⟨hok,hin⟩:=h
 have hw:0≤x∧x≤300:=by simpa [inB] using hin
 obtain ⟨h40,C,hgc,hC88,hcel⟩:=cel_of hD
 have hll:=linesL_len t (widL t x) (gOf t).cells
 refine ⟨.inl hll,by rw [hll];exact Nat.le_refl _,fun k hk=>?_,fun k hk y hy=>?_⟩
 ·rw [hll] at hk
  rw [linesL_get t (widL t x) hk]
  have hc:=hcel k hk
  generalize (gOf t).cells.getD k dG=c at hc
  have hto:=text_ok hok hc
  have hj:=lines_text hto (cellV (widL t x) t.gap c)
  have hln:=lnsOf_len t (widL t x) c
  unfold lnsOf at hln ⊢
  refine ⟨hj,?_⟩
  have hjl:=joinTo_len (lnOut (lnSt (cellV (widL t x) t.gap c) (wordsW (textOf t c)))) _ (Nat.le_refl _)
  rw [hj] at hjl
  have hsz:(textOf t c).size≤30:=by
   simp only [txtOkB,Bool.and_eq_true,decide_eq_true_eq] at hto
   exact hto.1
  unfold totS
  omega
 ·rw [hll] at hk
  rw [linesL_get t (widL t x) hk] at hy
  have hwc:=wid_cell hD hok hw hgc hk (hcel k hk)
  generalize (gOf t).cells.getD k dG=c at hwc hy
  unfold lnsOf at hy
  have hq0:0≤cellV (widL t x) t.gap c:=by omega
  have:=line_le (q:=cellV (widL t x) t.gap c) (n:=(cellV (widL t x) t.gap c).toNat) (by omega) (wordsW (textOf t c)) (fun z hz=>by have:=least_mem _ z hz;omega) y hy
  omega
end Go.Proofs.YtcbibdhlkdcmiafGreat
namespace Go.Proofs.YtcbibdhlkdcmiafGreat
open Go.RowKit

set_option maxRecDepth 100000 in
set_option maxHeartbeats 1000000 in
theorem pwTexts_any (v1 v2:Value) (ss:List ByteArray) (w:World) {z1 z2:Nat} (h1:StrsAt w z1 v1 ss) (h2:StrsAt w z2 v2 ss) :
  Calls Tryz.prog 59 #[v1,v2] w fun e w'=>e=.returned (.bool true)∧∃ n,w'=w.drewN n:=by
 obtain ⟨a1,cap1,rfl,hlen⟩:=At.form h1
 obtain ⟨a2,cap2,rfl,_⟩:=At.form h2
 unfold maxLen at hlen
 have hne:((ss.length:Int) != (ss.length:Int))=false:=by simp
 have H1:=Hid.intro h1
 have H2:=Hid.intro h2
 clear h1 h2
 go_enter Tryz.func59,Tryz.ntmps59
 go_wp2_with fail
 go_loopw [5] (fun i W=>∃ k n:Nat,k≤ss.length∧i=.int .i64 k∧W=w.drewN n) (fun i _=>ss.length - (intOf i).toNat)
 case atStart=>exact ⟨0,0,Nat.zero_le _,rfl,rfl⟩
 case round =>
  obtain ⟨k,nd,hk,rfl,rfl⟩:=hrel
  by_cases hlt:k < ss.length
  ·obtain ⟨b1,off1,cap1',e1,hc11,hc12,hbl1,x0,_⟩:=At.get H1.out hlt
   simp only [Value.slice.injEq,true_and] at e1
   obtain ⟨rfl,rfl⟩:=e1
   obtain ⟨b2,off2,cap2',e2,hc21,hc22,hbl2,y0,_⟩:=At.get H2.out hlt
   simp only [Value.slice.injEq,true_and] at e2
   obtain ⟨rfl,rfl⟩:=e2
   unfold maxLen at hc12 hc22
   rw [Nat.mul_one] at x0 y0
   generalize ss.getD k dS=x at x0 y0
   go_wp2_with fail
   go_quiet (fail)
   go_wp2
   go_roundw
   case rel=>exact ⟨k+1,nd+nq,by omega,by go_num,rfl⟩
   case measure=>simp [intOf];omega
  ·go_wp2
   go_ret
   exact ⟨rfl,nd,rfl⟩
end Go.Proofs.YtcbibdhlkdcmiafGreat
namespace Go.Proofs.YtcbibdhlkdcmiafGreat
open Go.RowKit Go.BigFrame

set_option maxRecDepth 100000 in
set_option maxHeartbeats 1000000 in
theorem pwAll_any (v1 v2:Value) (ls:List (List ByteArray)) (w:World) {z1 z2:Nat} (h1:LlsAt w z1 v1 ls) (h2:LlsAt w z2 v2 ls) :
  Calls Tryz.prog 25 #[v1,v2] w fun e w'=>e=.returned (.bool true)∧Below w.heap.size w w':=by
 obtain ⟨a1,cap1,rfl,hlen⟩:=At.form h1
 obtain ⟨a2,cap2,rfl,_⟩:=At.form h2
 unfold maxLen at hlen
 have hne:((ls.length:Int) != (ls.length:Int))=false:=by simp
 have hmx:Tryz.prog.follows .mixedOrders=true:=by kernel_rfl
 have H1:=Hid.intro h1
 have H2:=Hid.intro h2
 clear h1 h2
 go_enter Tryz.func25,Tryz.ntmps25
 go_wp2_with fail
 go_loopw [5] (fun i W=>∃ k:Nat,k≤ls.length∧i=.int .i64 k∧Hid (Below w.heap.size w W)) (fun i _=>ls.length - (intOf i).toNat)
 case atStart=>exact ⟨0,Nat.zero_le _,rfl,Below.refl _ _⟩
 case round =>
  obtain ⟨k,hk,rfl,HB⟩:=hrel
  by_cases hlt:k < ls.length
  ·obtain ⟨b1,off1,cap1',u1,e1,hc11,hc12,hbl1,x0,hs1⟩:=(H1.out.kept HB.out).get hlt
   simp only [Value.slice.injEq,true_and] at e1
   obtain ⟨rfl,rfl⟩:=e1
   obtain ⟨b2,off2,cap2',u2,e2,hc21,hc22,hbl2,y0,hs2⟩:=(H2.out.kept HB.out).get hlt
   simp only [Value.slice.injEq,true_and] at e2
   obtain ⟨rfl,rfl⟩:=e2
   unfold maxLen at hc12 hc22
   generalize ls.getD k []=l1 at hs1 hs2
   obtain ⟨au,cu,rfl,_⟩:=At.form hs1
   obtain ⟨av,cv,rfl,_⟩:=At.form hs2
   have hne2:=bw_some wr
   have m0:=bw_cell (a:=⟨b1,off1+k,none⟩) hbl1 x0
   have m1:=bw_cell (a:=⟨b2,off2+k,none⟩) hbl2 y0
   have KT:=Hid.intro (fun (p:BW wr)=>bw_of ((pwTexts_any _ _ _ p.u (hs1.kept p.h) (hs2.kept p.h)).mono (fun _ _ ⟨e1,n,e2⟩=>And.intro e1 (by rw [e2];exact k_drewN (Below.refl _ _) n))))
   clear hs1 hs2 x0 y0
   go_upto_region 6 with fail
   refine wp_region_quiet_below hmx (by kernel_rfl) ?_
   repeat (go_big_quiet_step (first | (go_at_call 59;refine KT.out _)))
   refine wpQuiet_nil ?_
   intro W5 hw'
   obtain ⟨⟨Wx,hW5⟩,hw''⟩:=hw'
   subst hw''
   have HB5:=Hid.intro (k_trans HB.out hW5)
   clear m0 m1 KT hne2 hW5
   go_wp2
   go_roundw
   case rel=>exact ⟨k+1,by omega,by go_num,HB5⟩
   case measure=>simp [intOf];omega
  ·go_wp2
   go_ret
   exact ⟨rfl,HB.out⟩
end Go.Proofs.YtcbibdhlkdcmiafGreat
