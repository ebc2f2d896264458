/-
  PROVED HERE: the model's l5Wish at a drawn table: the list wishL, in memory of its own; nothing that was in memory is turned. Also: 3 more texts of the same proof.
-/
import Derived.Test.YtggmjiddadjilaeGreatC33
import Derived.Test.YtggmjiddadjilaeGreatC40
import Derived.Test.YtggmjiddadjilaeGreatC36
import Derived.Test.YtggmjiddadjilaeGreatC35
import Derived.Test.YtggmjiddadjilaeGreatC30
import Derived.Test.YtggmjiddadjilaeGreatC12
import Derived.Test.YtggmjiddadjilaeGreatC20
import Derived.Test.YtggmjiddadjilaeGreatC19
import Derived.Test.YtggmjiddadjilaeGreatC17
namespace Go.Proofs.YtggmjiddadjilaeGreat
open Go.RowKit Go.BigFrame
set_option maxRecDepth 100000 in
set_option maxHeartbeats 1000000 in
theorem specl5Wish (ac ar:Option Addr) (cc cr:Nat) (t:T) (hD:Drawn t) (ag:Option Addr) (cg:Nat) (w:World) {z zg:Nat} (hc:ColsAt w z (.slice ac t.cols.length cc) t.cols) (hr:RowsAt w z (.slice ar t.rows.length cr) t.rows) (hg:GsAt w zg (.slice ag (gOf t).cells.length cg) (gOf t).cells) (hok:tblB t=true) :
  Calls Tryz.prog 82 #[.agg #[.slice ac t.cols.length cc,.int .i64 t.head,.int .i64 t.foot,.slice ar t.rows.length cr,.int .i64 t.gap],.agg #[.int .i64 (gOf t).rows,.int .i64 (gOf t).cols,.slice ag (gOf t).cells.length cg]] w fun e w'=>∃ v,e=.returned v∧RowI w' w.heap.size w'.heap.size v (wishL t)∧Below w.heap.size w w':=by
 obtain ⟨_,C,hgc,hC,_⟩:=cel_of hD
 have hC1:1≤C:=by
  have h1:(gOf t).cols=colsOf (max 1 (t.cols.length:Int)) (gridOf t):=by rw [gOf_ok hok]
  have h2:=colsOf_ge (gridOf t) (max 1 (t.cols.length:Int))
  omega
 have HCN:=Hd (colN_of hgc)
 have HL:Hid (maxTo (needL t (wishP t)) (leastL t) C=wishL t):=by rw [Hid,wishL,HCN.out]
 have hNL:needTo (fun x=>((wishOf (textOf t x):Nat):Int)) t.gap (gOf t).cells (zeroL C) 4=needL t (wishP t):=by unfold needL;rw [HCN.out];rfl
 have hlen:=needL_len t (wishP t)
 have hlen2:=leastL_len t
 rw [HCN.out] at hlen hlen2
 have HUp:=Hd (needL_up hD (fun x=>(wishP_le t x).2))
 have HUp2:=Hd (leastL_up hD)
 have hzl:(zeroL C).length=C:=by simp [zeroL]
 have hmx:Tryz.prog.follows .mixedOrders=true:=by kernel_rfl
 have KN:=Hd (fun W h1 h2 a0 c0 h3=>specl5Need_false ac ar cc cr t hD ag cg W (z:=z) (zg:=zg) h1 h2 C hgc hC1 a0 c0 h3)
 have KZ:=Hd (fun W=>specl5Zero (gOf t).rows (.slice ag (gOf t).cells.length cg) C hC W)
 have KLs:=Hd (fun W h1 h2 h3=>specl5Least ac ar cc cr t hD ag cg W (z:=z) (zg:=zg) h1 h2 h3 hok)
 rw [← hgc] at KZ
 rw [hNL] at KN
 generalize needL t (wishP t)=L at KN HL hlen HUp
 generalize leastL t=M at KLs HL hlen2 HUp2
 have HP:Hid (Ls w z zg ac ar cc cr t ag cg ((w.alloc (.cells #[.slice ac t.cols.length cc,.int .i64 t.head,.int .i64 t.foot,.slice ar t.rows.length cr,.int .i64 t.gap] 26)).alloc (.cells #[.int .i64 (gOf t).rows,.int .i64 (gOf t).cols,.slice ag (gOf t).cells.length cg] 36))):=by
  have K:=k_alloc (k_alloc (Below.refl w.heap.size w) (.cells #[.slice ac t.cols.length cc,.int .i64 t.head,.int .i64 t.foot,.slice ar t.rows.length cr,.int .i64 t.gap] 26)) (.cells #[.int .i64 (gOf t).rows,.int .i64 (gOf t).cols,.slice ag (gOf t).cells.length cg] 36)
  refine ⟨K,⟨hc.kept K,hr.kept K⟩,hg.kept K,(Below.heap_alloc _ _ _ (by simp)).trans (newestB _ _),?_⟩
  have:=newestB (w.alloc (.cells #[.slice ac t.cols.length cc,.int .i64 t.head,.int .i64 t.foot,.slice ar t.rows.length cr,.int .i64 t.gap] 26)) (.cells #[.int .i64 (gOf t).rows,.int .i64 (gOf t).cols,.slice ag (gOf t).cells.length cg] 36)
  simpa using this
 clear hNL hc hr hg hD hgc hok
 go_enter Tryz.func82,Tryz.ntmps82
 go_upto_region 1 with fail
 generalize (w.alloc (.cells #[.slice ac t.cols.length cc,.int .i64 t.head,.int .i64 t.foot,.slice ar t.rows.length cr,.int .i64 t.gap] 26)).alloc (.cells #[.int .i64 (gOf t).rows,.int .i64 (gOf t).cols,.slice ag (gOf t).cells.length cg] 36)=W0 at HP ⊢
 obtain ⟨b0,b1,b2,b3,b4⟩:=fiveO HP.out.2.2.2.1
 obtain ⟨q0,q1,q2⟩:=threeO HP.out.2.2.2.2
 have ht0:=(bL HP.out.2.2.2.1)
 have hg0:=(bL HP.out.2.2.2.2)
 go_cut [5] (fun s W=>∃ a c D,s=.slice a C c∧Hid (RowI W W0.heap.size D (.slice a C c) L)∧Hid (Below W0.heap.size W0 W)∧D≤W.heap.size)
 case first=>as_aux_lemma =>
  have HPd:=Hd (HP.out.kept (k_drew (Below.refl _ _)))
  have HBd:=Hd (k_drew (Below.refl W0.heap.size W0))
  go_region_with (first
   | (go_at_call 68;refine (KZ.out _).mono ?_;rintro e w1 ⟨v1,rfl,hr1,hb1⟩;obtain ⟨a1,c1,rfl⟩:=hr1.form;rw [hzl] at hr1 ⊢;have R1:=Hd hr1.at;have P1:=Hd (HPd.out.kept hb1);have B1:=Hd (k_trans HBd.out hb1);clear hr1 hb1;obtain ⟨p0,p1,p2,p3,p4⟩:=fiveO P1.out.2.2.2.1;obtain ⟨r0,r1,r2⟩:=threeO P1.out.2.2.2.2;have ht1:=(bL P1.out.2.2.2.1);have hg1:=(bL P1.out.2.2.2.2))
   | (go_at_call 67;refine (KN.out _ P1.out.2.1.2 P1.out.2.2.1 a1 c1 R1.out).mono ?_;rintro e w2 ⟨v2,rfl,hr2,hb2⟩;obtain ⟨a2,c2,rfl⟩:=hr2.form;rw [hlen] at hr2 ⊢;have R2:=Hd (hr2.base (B':=W0.heap.size) B1.out.size (Nat.le_refl _));have B2:=Hd (k_trans B1.out hb2);clear hr2 hb2))
  all_goals (go_wp2_with fail;go_meet;case rel=>exact ⟨_,_,_,rfl,R2,B2,Nat.le_refl _⟩)
 case rest =>
  obtain ⟨a2,c2,D,rfl,HR0,HB0,hD0⟩:=hcut
  clear b0 b1 b2 b3 b4 q0 q1 q2 hg0 KN KZ ht0
  have HP0:=Hd (HP.out.kept HB0.out)
  obtain ⟨b0,b1,b2,b3,b4⟩:=fiveO HP0.out.2.2.2.1
  obtain ⟨q0,q1,q2⟩:=threeO HP0.out.2.2.2.2
  have ht0:=(bL HP0.out.2.2.2.1)
  have hg0:=(bL HP0.out.2.2.2.2)
  go_wp2_with fail
  refine (KLs.out _ HP0.out.2.1.1 HP0.out.2.1.2 HP0.out.2.2.1).mono ?_
  rintro e w3 ⟨v3,rfl,hR3,hb3⟩
  obtain ⟨a3,c3,rfl⟩:=hR3.form
  rw [hlen2] at hR3 ⊢
  have HR3:=Hd (HR0.out.kept (fun j h0 _ _=>hb3.block j h0))
  have HM3:=Hd (hR3.base hD0 (Nat.le_refl _))
  have HB3:=Hd (k_trans HB0.out hb3)
  have hz3:D≤w3.heap.size:=Nat.le_trans hD0 hb3.size
  clear hR3 hb3 HR0 HB0 hD0 HP0 b0 b1 b2 b3 b4 q0 q1 q2 ht0 hg0 KLs
  go_wp2_with fail
  go_loopw [7] (fun s W=>∃ k:Nat,s=.int .i64 k∧k≤C∧Hid (RowI W W0.heap.size D (.slice a2 C c2) (maxTo L M k))∧Hid (RowI W D w3.heap.size (.slice a3 C c3) M)∧Hid (Below W0.heap.size W0 W)∧w3.heap.size≤W.heap.size) (fun s _=>C - (intOf s).toNat)
  case atStart=>exact ⟨0,rfl,Nat.zero_le _,HR3,HM3,HB3,Nat.le_refl _⟩
  case round =>
   clear HR3 HM3 HB3
   obtain ⟨k,rfl,hk,HR,HM,HB,hsz⟩:=hrel
   by_cases hlt:k < C
   case neg =>
    obtain rfl:k=C:=by omega
    have HF:=Hd (HR.out.base (B':=w.heap.size) (D':=wr.heap.size) HP.out.1.size (by omega))
    have HK:=Hd (HP.out.kept HB.out).1
    go_wp2
    go_ret
    exact ⟨_,rfl,by rw [← HL.out];exact HF.out,HK.out⟩
   obtain ⟨g,cap',e',hBg,hgD,hgw,hc1,hc2,hx,hf⟩:=HR.out.get (i:=k) (by rw [maxTo_len];omega)
   rw [maxTo_len,hlen] at e' hc1
   simp only [Value.slice.injEq,true_and] at e'
   obtain ⟨rfl,rfl⟩:=e'
   obtain ⟨g3,cap3,e3,hBg3,hgD3,hgw3,hc13,hc23,hy,_⟩:=HM.out.get (i:=k) (by omega)
   rw [hlen2] at e3 hc13
   simp only [Value.slice.injEq,true_and] at e3
   obtain ⟨rfl,rfl⟩:=e3
   unfold maxLen at hc2 hc23
   rw [maxTo_out L M k (Nat.le_refl _)] at hx
   have hxb:=HUp.out k (by omega)
   have hyb:=HUp2.out k (by omega)
   have HLk:Hid (k < (maxTo L M k).length):=by rw [Hid,maxTo_len];omega
   have HNe:Hid (∀ i,D≤i→i ≠ g):=fun i h1 e=>by omega
   have HN:=Hd (fun W (h:Below wr.heap.size wr W)=>(HR.out.kept (fun j h0 _ _=>h.block j h0)).set (i:=k) HLk.out (max (L.getD k 0) (M.getD k 0)))
   have HE:Hid (maxTo L M (k+1)=(maxTo L M k).set k (max (L.getD k 0) (M.getD k 0))):=rfl
   rw [← HE.out] at HN
   generalize L.getD k 0=x at hx hxb HN
   generalize M.getD k 0=y at hy hyb HN
   have hne:=bw_some wr
   have m1:=bw_cell (a:=⟨g,k,none⟩) hgw hx
   have m2:=bw_cell (a:=⟨g3,k,none⟩) hgw3 hy
   have KM:=Hd (fun (p:BW wr)=>bw_same (l1Max_any x y p.u))
   clear HE hx hy hf
   go_upto_region 6 with fail
   refine wp_region_last 12 hmx (by rfl) (by rfl) (by kernel_rfl) (by kernel_rfl) ?_
   simp only [List.take_succ_cons,List.take_zero]
   repeat (go_big_quiet_step (first | (go_at_call 64;refine KM.out _)))
   refine wpQuiet_nil ?_
   intro W5 hw'
   obtain ⟨⟨Wx,hW5⟩,hw''⟩:=hw'
   subst hw''
   have HN5:=Hd (HN.out _ hW5)
   have HB5:=Hd (k_set (k_trans HB.out hW5) (p:=⟨g,k,none⟩) hBg (.int .i64 (max x y)))
   have HM5:=Hd ((HM.out.kept (fun j h0 _ _=>hW5.block j h0)).kept (w':=W5.setCell ⟨g,k,none⟩ (.int .i64 (max x y))) (fun i _ h1 _=>Below.heap_setCell _ _ _ _ (HNe.out i h1)))
   have hf5:=(HR.out.kept (fun j h0 _ _=>hW5.block j h0)).get (i:=k) HLk.out
   obtain ⟨g5,cap5,e5,_,_,hgw5,_,_,hx5,hf5⟩:=hf5
   simp only [Value.slice.injEq,Option.some.injEq,Addr.mk.injEq,and_true] at e5
   have eg:=e5.1
   clear e5
   subst eg
   have hsz5:w3.heap.size≤(W5.setCell ⟨g,k,none⟩ (.int .i64 (max x y))).heap.size:=by rw [sizeSet];exact Nat.le_trans hsz hW5.size
   clear m1 m2 HN HB HR HM hW5 hne KM
   rw [if_pos (by rfl)]
   go_simp
   go_wp2
   go_roundw
   case rel=>exact ⟨k+1,by go_num,by omega,HN5,HM5,HB5,hsz5⟩
   case measure=>simp [intOf];omega
set_option maxRecDepth 100000 in
set_option maxHeartbeats 1000000 in
theorem specl5Gaps (ac ar:Option Addr) (cc cr:Nat) (t:T) (r:Int) (vg:Value) (C:Nat) (hC:1≤C∧C≤88) (hgap:0≤t.gap∧t.gap≤3) (w:World) :
  Calls Tryz.prog 35 #[.agg #[.slice ac t.cols.length cc,.int .i64 t.head,.int .i64 t.foot,.slice ar t.rows.length cr,.int .i64 t.gap],.agg #[.int .i64 r,.int .i64 (C:Int),vg]] w fun e w'=>e=.returned (.int .i64 (t.gap * ((C:Int) - 1)))∧Below w.heap.size w w':=by
 obtain ⟨m,rfl⟩:∃ m:Nat,C=m+1:=⟨C - 1,by omega⟩
 have e1:((m+1:Nat):Int) - 1=m:=by omega
 have hg1:0≤t.gap * (m:Int):=Int.mul_nonneg hgap.1 (by omega)
 have hg2:t.gap * (m:Int)≤3 * 87:=Int.mul_le_mul hgap.2 (by omega) (by omega) (by omega)
 rw [e1]
 clear e1
 go_enter Tryz.func35,Tryz.ntmps35
 go_wp2
 go_ret
 exact ⟨by go_num,by repeat (first | exact Below.refl _ _ | apply k_alloc)⟩
set_option maxRecDepth 100000 in
set_option maxHeartbeats 2000000 in
theorem specl6Cols (ac ar:Option Addr) (cc cr:Nat) (t:T) (hD:Drawn t) (ag:Option Addr) (cg:Nat) (width:Int) (hw:0≤width∧width≤300) (hok:tblB t=true) (w:World) {z zg:Nat} (hc:ColsAt w z (.slice ac t.cols.length cc) t.cols) (hr:RowsAt w z (.slice ar t.rows.length cr) t.rows) (hg:GsAt w zg (.slice ag (gOf t).cells.length cg) (gOf t).cells) :
  Calls Tryz.prog 50 #[.agg #[.slice ac t.cols.length cc,.int .i64 t.head,.int .i64 t.foot,.slice ar t.rows.length cr,.int .i64 t.gap],.agg #[.int .i64 (gOf t).rows,.int .i64 (gOf t).cols,.slice ag (gOf t).cells.length cg],.int .i64 width] w fun e w'=>∃ v,e=.returned v∧RowI w' w.heap.size w'.heap.size v (widL t width)∧Below w.heap.size w w':=by
 have hmx:Tryz.prog.follows .mixedOrders=true:=by kernel_rfl
 obtain ⟨hC1,hC88,hacr,ha0,ha1,hall⟩:=acr_least hD hok
 obtain ⟨_,C0,hgc0,_,_⟩:=cel_of hD
 have hgc:(gOf t).cols=(colN t:Int):=by rw [colN_of hgc0];exact hgc0
 have hgap:0≤t.gap∧t.gap≤3:=by
  simp only [tblB,inB,Bool.and_eq_true,decide_eq_true_eq] at hok
  exact hok.2.2.1
 have HlL:=Hd (leastL_len t)
 have HwL:=Hd (wishL_len t)
 have hsum0:0≤(leastL t).sum∧(leastL t).sum≤100 * 100000:=by have:=sum_bound hall;have:=leastL_len t;omega
 have hgg:0≤t.gap * ((colN t:Int) - 1)∧t.gap * ((colN t:Int) - 1)≤1000:=⟨Int.mul_nonneg hgap.1 (by omega),Int.le_trans (Int.mul_le_mul hgap.2 (show (colN t:Int) - 1≤87 by omega) (by omega) (by omega)) (by omega)⟩
 have HrV:Hid (restV t width=width - (leastL t).sum - t.gap * ((colN t:Int) - 1)):=by rw [Hid,restV];omega
 have HP:Hid (Ls w z zg ac ar cc cr t ag cg ((w.alloc (.cells #[.slice ac t.cols.length cc,.int .i64 t.head,.int .i64 t.foot,.slice ar t.rows.length cr,.int .i64 t.gap] 26)).alloc (.cells #[.int .i64 (gOf t).rows,.int .i64 (gOf t).cols,.slice ag (gOf t).cells.length cg] 36))):=by
  have K:=k_alloc (k_alloc (Below.refl w.heap.size w) (.cells #[.slice ac t.cols.length cc,.int .i64 t.head,.int .i64 t.foot,.slice ar t.rows.length cr,.int .i64 t.gap] 26)) (.cells #[.int .i64 (gOf t).rows,.int .i64 (gOf t).cols,.slice ag (gOf t).cells.length cg] 36)
  refine ⟨K,⟨hc.kept K,hr.kept K⟩,hg.kept K,(Below.heap_alloc _ _ _ (by simp)).trans (newestB _ _),?_⟩
  have:=newestB (w.alloc (.cells #[.slice ac t.cols.length cc,.int .i64 t.head,.int .i64 t.foot,.slice ar t.rows.length cr,.int .i64 t.gap] 26)) (.cells #[.int .i64 (gOf t).rows,.int .i64 (gOf t).cols,.slice ag (gOf t).cells.length cg] 36)
  simpa using this
 have KL:=Hd (fun W (h:Ls w z zg ac ar cc cr t ag cg W)=>specl5Least ac ar cc cr t hD ag cg W h.2.1.1 h.2.1.2 h.2.2.1 hok)
 have KW:=Hd (fun W (h:Ls w z zg ac ar cc cr t ag cg W)=>specl5Wish ac ar cc cr t hD ag cg W h.2.1.1 h.2.1.2 h.2.2.1 hok)
 have KG:=Hd (fun W=>specl5Gaps ac ar cc cr t (gOf t).rows (.slice ag (gOf t).cells.length cg) (colN t) ⟨hC1,hC88⟩ hgap W)
 generalize t.gap * ((colN t:Int) - 1)=gp at HrV hgg KG
 rw [← hgc] at KG
 have HC:=Hd (And.intro hC1 hC88)
 have HAll:=Hd hall
 have HWu:=Hd (wishL_up hD)
 have HWno:=Hd (fun h=>wid_no (t:=t) (width:=width) h)
 have HWr:=Hd (fun h=>wid_rest (t:=t) (width:=width) h)
 have HSt:=Hd (fun h=>wid_steps hD hok hw h)
 have HSm:=Hd (fun h=>out1_small hD hok hw h)
 clear hc hr hg hacr ha0 ha1 hall hgc0 hgap
 have Hgc:=Hd hgc
 clear hgc hD hok
 go_enter Tryz.func50,Tryz.ntmps50
 go_upto_region 1 with fail
 generalize (w.alloc (.cells #[.slice ac t.cols.length cc,.int .i64 t.head,.int .i64 t.foot,.slice ar t.rows.length cr,.int .i64 t.gap] 26)).alloc (.cells #[.int .i64 (gOf t).rows,.int .i64 (gOf t).cols,.slice ag (gOf t).cells.length cg] 36)=W0 at HP ⊢
 obtain ⟨b0,b1,b2,b3,b4⟩:=fiveO HP.out.2.2.2.1
 obtain ⟨q0,q1,q2⟩:=threeO HP.out.2.2.2.2
 go_wp2_with fail
 refine (KL.out _ HP.out).mono ?_
 rintro e w1 ⟨v1,rfl,hr1,hb⟩
 obtain ⟨ao,co,rfl⟩:=hr1.form
 rw [HlL.out] at hr1 ⊢
 have HRo:=Hd (hr1.base (B':=w.heap.size) HP.out.1.size (Nat.le_refl _))
 have HO:=Hd hr1.at
 replace HP:=Hd (HP.out.kept hb)
 clear hb hr1 b0 b1 b2 b3 b4 q0 q1 q2 KL
 obtain ⟨b0,b1,b2,b3,b4⟩:=fiveO HP.out.2.2.2.1
 obtain ⟨q0,q1,q2⟩:=threeO HP.out.2.2.2.2
 go_wp2_with fail
 refine (KW.out _ HP.out).mono ?_
 rintro e w2 ⟨v2,rfl,hr2,hb⟩
 obtain ⟨aw,cw,rfl⟩:=hr2.form
 rw [HwL.out] at hr2 ⊢
 have HWi:=Hd hr2.at
 replace HRo:=Hd ((HRo.out.kept (fun j h0 _ _=>hb.block j h0)).base (Nat.le_refl _) hb.size)
 replace HO:=Hd (HO.out.kept hb)
 replace HP:=Hd (HP.out.kept hb)
 clear hb hr2 b0 b1 b2 b3 b4 q0 q1 q2 KW
 have ht0:=(bL HP.out.2.2.2.1)
 have hg0:=(bL HP.out.2.2.2.2)
 have hne:=bw_some w2
 obtain ⟨b0,b1,b2,b3,b4⟩:=fiveO HP.out.2.2.2.1
 obtain ⟨q0,q1,q2⟩:=threeO HP.out.2.2.2.2
 have m0:=bw_cell ht0 b0
 have m1:=bw_cell ht0 b1
 have m2:=bw_cell ht0 b2
 have m3:=bw_cell ht0 b3
 have m4:=bw_cell ht0 b4
 have n0:=bw_cell hg0 q0
 have n1:=bw_cell hg0 q1
 have n2:=bw_cell hg0 q2
 have KS:=Hd (fun (p:BW w2)=>bw_same (specl1Sum_any _ (leastL t) (by have:=leastL_len t;have:=HC.out.2;omega) HAll.out p.u (HO.out.kept p.h)))
 have KGq:=Hd (fun (p:BW w2)=>bw_of (KG.out p.u))
 generalize (leastL t).sum=s at HrV hsum0 KS
 clear b0 b1 b2 b3 b4 q0 q1 q2 KG
 go_upto_region 3 with fail
 refine wp_region_quiet_below hmx (by kernel_rfl) ?_
 repeat (go_big_quiet_step (first | (go_at_call 33;refine KS.out _) | (go_at_call 35;refine KGq.out _)))
 refine wpQuiet_nil ?_
 intro W3 hw'
 obtain ⟨⟨Wx,hb⟩,hw''⟩:=hw'
 subst hw''
 replace HRo:=Hd ((HRo.out.kept (fun j h0 _ _=>hb.block j h0)).base (Nat.le_refl _) hb.size)
 replace HO:=Hd (HO.out.kept hb)
 replace HWi:=Hd (HWi.out.kept hb)
 replace HP:=Hd (HP.out.kept hb)
 clear m0 m1 m2 m3 m4 n0 n1 n2 hne hb KS KGq ht0 hg0
 rw [← HrV.out]
 by_cases hV:restV t width≤0
 ·have HE:=Hd (HWno.out hV)
  go_wp2
  go_ret
  exact ⟨_,rfl,by rw [HE.out];exact HRo.out,HP.out.1⟩
 have hVp:0 < restV t width:=by omega
 obtain ⟨ok1,ok2,hl2,ho1,ho2,_,_⟩:=HSt.out hVp
 have HE:=Hd (HWr.out hVp)
 have Hok1:=Hd ok1
 have Hok2:=Hd ok2
 have Ho1:=Hd ho1
 have Ho2:=Hd ho2
 have Hs1:=Hd (HSm.out hVp)
 have hle1:0≤left1 t width∧left1 t width≤100000:=(shrOk_parts ok2).1
 have hle0:=(shrOk_parts ok1).1
 clear ok1 ok2 ho1 ho2 HSt HSm HWr HWno HrV HRo
 obtain ⟨b0,b1,b2,b3,b4⟩:=fiveO HP.out.2.2.2.1
 go_wp2_with fail
 refine (specl6Wants2 ac ar cc cr t width hw (leastL t) (colN t) HC.out.2 rfl HlL.out HAll.out ao aw co cw _ HP.out.2.1.1 HO.out).mono ?_
 rintro e w4 ⟨v4,rfl,hr4,hb⟩
 obtain ⟨a4,c4,rfl⟩:=hr4.form
 rw [want1_len,HlL.out] at hr4 ⊢
 replace HO:=Hd (HO.out.kept hb)
 replace HWi:=Hd (HWi.out.kept hb)
 replace HP:=Hd (HP.out.kept hb)
 have HX:=Hd hr4.at
 clear hr4 hb b0 b1 b2 b3 b4
 go_wp2_with fail
 refine (specl4UpTo (restV t width) _ (want1 t width (leastL t)) Hok1.out _ HX.out).mono ?_
 rintro e w5 ⟨v5,rfl,hr5,hb⟩
 obtain ⟨a5,c5,rfl⟩:=hr5.form
 have hu1:=(upTo_total Hok1.out).1
 rw [want1_len,HlL.out] at hu1
 rw [hu1] at hr5 ⊢
 replace HO:=Hd (HO.out.kept hb)
 replace HWi:=Hd (HWi.out.kept hb)
 replace HP:=Hd (HP.out.kept hb)
 have HX5:=Hd hr5.at
 have HuL:=Hd hu1
 clear hr5 hb HX hu1
 go_wp2_with fail
 refine (specl6Add _ _ (leastL t) (upToL (restV t width) (want1 t width (leastL t))) (by rw [HuL.out,HlL.out]) (by rw [HlL.out];exact HC.out.2) HAll.out (upTo_small Hok1.out) _ HO.out HX5.out).mono ?_
 rintro e w6 ⟨v6,rfl,hr6,hb⟩
 obtain ⟨a6,c6,rfl⟩:=hr6.form
 have hr6:RowI w6 w5.heap.size w6.heap.size (.slice a6 (out1 t width).length c6) (out1 t width):=hr6
 rw [Ho1.out] at hr6
 rw [show (addL (leastL t) (upToL (restV t width) (want1 t width (leastL t)))).length=colN t from Ho1.out]
 rw [show upToN (restV t width) (want1 t width (leastL t))=left1 t width from rfl]
 replace HWi:=Hd (HWi.out.kept hb)
 replace HP:=Hd (HP.out.kept hb)
 have HO1:=Hd hr6.at
 clear hr6 hb HX5 HO HuL
 obtain ⟨b0,b1,b2,b3,b4⟩:=fiveO HP.out.2.2.2.1
 go_wp2_with fail
 refine (specl6Wants0 ac ar cc cr t width (out1 t width) (colN t) HC.out.2 Ho1.out Hs1.out.1 a6 aw c6 cw _ HP.out.2.1.1 HO1.out HWi.out HWu.out HwL.out).mono ?_
 rintro e w7 ⟨v7,rfl,hr7,hb⟩
 obtain ⟨a7,c7,rfl⟩:=hr7.form
 rw [want2_len,Ho1.out] at hr7 ⊢
 replace HO1:=Hd (HO1.out.kept hb)
 replace HP:=Hd (HP.out.kept hb)
 have HX:=Hd hr7.at
 clear hr7 hb b0 b1 b2 b3 b4 HWi
 go_wp2_with fail
 refine (specl4UpTo (left1 t width) _ (want2 t (out1 t width)) Hok2.out _ HX.out).mono ?_
 rintro e w8 ⟨v8,rfl,hr8,hb⟩
 obtain ⟨a8,c8,rfl⟩:=hr8.form
 have hu2:=(upTo_total Hok2.out).1
 rw [want2_len,Ho1.out] at hu2
 rw [hu2] at hr8 ⊢
 replace HO1:=Hd (HO1.out.kept hb)
 replace HP:=Hd (HP.out.kept hb)
 have HX8:=Hd hr8.at
 have HuL:=Hd hu2
 clear hr8 hb HX hu2
 go_wp2_with fail
 refine (specl6Add _ _ (out1 t width) (upToL (left1 t width) (want2 t (out1 t width))) (by rw [HuL.out,Ho1.out]) (by rw [Ho1.out];exact HC.out.2) Hs1.out.1 (upTo_small Hok2.out) _ HO1.out HX8.out).mono ?_
 rintro e w9 ⟨v9,rfl,hr9,hb⟩
 obtain ⟨a9,c9,rfl⟩:=hr9.form
 have hr9:RowI w9 w8.heap.size w9.heap.size (.slice a9 (out2 t width).length c9) (out2 t width):=hr9
 rw [Ho2.out] at hr9
 rw [show (addL (out1 t width) (upToL (left1 t width) (want2 t (out1 t width)))).length=colN t from Ho2.out]
 rw [show upToN (left1 t width) (want2 t (out1 t width))=left2 t width from rfl]
 have HR2:=Hd (hr9.base (B':=w.heap.size) HP.out.1.size (Nat.le_refl _))
 replace HP:=Hd (HP.out.kept hb)
 clear hr9 hb HX8 HO1 HuL
 obtain ⟨b0,b1,b2,b3,b4⟩:=fiveO HP.out.2.2.2.1
 go_wp2_with fail
 refine (specl6Of ac ar cc cr t 0 (colN t) HC.out.2 _ HP.out.2.1.1).mono ?_
 rintro e w10 ⟨v10,rfl,hr10,hb⟩
 obtain ⟨a10,c10,rfl⟩:=hr10.form
 rw [oneL_len] at hr10 ⊢
 replace HR2:=Hd ((HR2.out.kept (fun j h0 _ _=>hb.block j h0)).base (Nat.le_refl _) hb.size)
 replace HP:=Hd (HP.out.kept hb)
 have HA0:=Hd hr10.at
 clear hr10 hb b0 b1 b2 b3 b4
 have Hone:=Hd (fun q=>(shrOk_parts (oneL_ok (kindP t q) (n:=colN t) (t:=0) (by omega) (by have:=HC.out.2;omega))).2.2)
 have HlE:=Hd (fun q=>oneL_len (kindP t q) (colN t))
 have HsE:=Hd (fun q=>oneL_sum (P:=kindP t q) (n:=colN t))
 have HC88:Hid (colN t≤88):=HC.out.2
 by_cases hn0:0 < (selN (kindP t 0) (colN t)).length
 ·have hz0:(((selN (kindP t 0) (colN t)).length:Int) == 0)=false:=beq_eq_false_iff_ne.2 (by omega)
  go_wp2_with fail
  refine (specl1Sum_any _ (oneL (kindP t 0) (colN t)) (by rw [HlE.out];have:=HC88.out;omega) (Hone.out 0) _ HA0.out).mono ?_
  rintro e wx ⟨rfl,ex⟩
  cases ex
  rw [HsE.out 0]
  go_wp2_with fail
  refine (specl1Sum_any _ (oneL (kindP t 0) (colN t)) (by rw [HlE.out];have:=HC88.out;omega) (Hone.out 0) _ HA0.out).mono ?_
  rintro e wx ⟨rfl,ex⟩
  cases ex
  rw [HsE.out 0]
  go_wp2_with fail
  refine (specl4Share (left2 t width) _ (oneL (kindP t 0) (colN t)) (oneL_ok _ (by omega) (by have:=HC88.out;omega)) _ HA0.out).mono ?_
  rintro e w13 ⟨v13,rfl,hr13,hb⟩
  obtain ⟨a13,c13,rfl⟩:=hr13.form
  have hsl:=shareL_len (oneL_ok (kindP t 0) (n:=colN t) (t:=left2 t width) (by omega) (by have:=HC88.out;omega))
  rw [oneL_len] at hsl
  have HSl:=Hd hsl
  rw [hsl] at hr13 ⊢
  replace HR2:=Hd ((HR2.out.kept (fun j h0 _ _=>hb.block j h0)).base (Nat.le_refl _) hb.size)
  replace HP:=Hd (HP.out.kept hb)
  have HX13:=Hd hr13.at
  clear hr13 hb hsl
  go_wp2_with fail
  refine (specl6Add _ _ (out2 t width) (shareL (left2 t width) (oneL (kindP t 0) (colN t))) (by rw [HSl.out,Ho2.out]) (by rw [Ho2.out];exact HC88.out) Hs1.out.2 (share_small (oneL_ok (kindP t 0) (n:=colN t) (t:=left2 t width) (by omega) (by have:=HC88.out;omega)) (by rw [oneL_len];have:=HC.out.1;omega)) _ HR2.out.at HX13.out).mono ?_
  rintro e w14 ⟨v14,rfl,hr14,hb⟩
  obtain ⟨a14,c14,rfl⟩:=hr14.form
  have HR14:=Hd (hr14.base (B':=w.heap.size) HP.out.1.size (Nat.le_refl _))
  replace HP:=Hd (HP.out.kept hb)
  clear hr14 hb HX13 HR2
  go_wp2
  go_ret
  exact ⟨_,rfl,by rw [HE.out,restL,if_pos hn0];exact HR14.out,HP.out.1⟩
 ·have hl0:(selN (kindP t 0) (colN t)).length=0:=by omega
  go_wp2_with fail
  refine (specl1Sum_any _ (oneL (kindP t 0) (colN t)) (by rw [HlE.out];have:=HC88.out;omega) (Hone.out 0) _ HA0.out).mono ?_
  rintro e wx ⟨rfl,ex⟩
  cases ex
  rw [HsE.out 0]
  rw [hl0]
  obtain ⟨b0,b1,b2,b3,b4⟩:=fiveO HP.out.2.2.2.1
  go_wp2_with fail
  refine (specl6Of ac ar cc cr t 2 (colN t) HC88.out _ HP.out.2.1.1).mono ?_
  rintro e w12 ⟨v12,rfl,hr12,hb⟩
  obtain ⟨a12,c12,rfl⟩:=hr12.form
  rw [oneL_len] at hr12 ⊢
  replace HR2:=Hd ((HR2.out.kept (fun j h0 _ _=>hb.block j h0)).base (Nat.le_refl _) hb.size)
  replace HP:=Hd (HP.out.kept hb)
  have HA2:=Hd hr12.at
  clear hr12 hb b0 b1 b2 b3 b4 HA0
  by_cases hn2:0 < (selN (kindP t 2) (colN t)).length
  ·have hz2:(((selN (kindP t 2) (colN t)).length:Int) == 0)=false:=beq_eq_false_iff_ne.2 (by omega)
   go_wp2_with fail
   refine (specl1Sum_any _ (oneL (kindP t 2) (colN t)) (by rw [HlE.out];have:=HC88.out;omega) (Hone.out 2) _ HA2.out).mono ?_
   rintro e wx ⟨rfl,ex⟩
   cases ex
   rw [HsE.out 2]
   go_wp2_with fail
   refine (specl4Share (left2 t width) _ (oneL (kindP t 2) (colN t)) (oneL_ok _ (by omega) (by have:=HC88.out;omega)) _ HA2.out).mono ?_
   rintro e w13 ⟨v13,rfl,hr13,hb⟩
   obtain ⟨a13,c13,rfl⟩:=hr13.form
   have hsl:=shareL_len (oneL_ok (kindP t 2) (n:=colN t) (t:=left2 t width) (by omega) (by have:=HC88.out;omega))
   rw [oneL_len] at hsl
   have HSl:=Hd hsl
   rw [hsl] at hr13 ⊢
   replace HR2:=Hd ((HR2.out.kept (fun j h0 _ _=>hb.block j h0)).base (Nat.le_refl _) hb.size)
   replace HP:=Hd (HP.out.kept hb)
   have HX13:=Hd hr13.at
   clear hr13 hb hsl
   go_wp2_with fail
   refine (specl6Add _ _ (out2 t width) (shareL (left2 t width) (oneL (kindP t 2) (colN t))) (by rw [HSl.out,Ho2.out]) (by rw [Ho2.out];exact HC88.out) Hs1.out.2 (share_small (oneL_ok (kindP t 2) (n:=colN t) (t:=left2 t width) (by omega) (by have:=HC88.out;omega)) (by rw [oneL_len];have:=HC.out.1;omega)) _ HR2.out.at HX13.out).mono ?_
   rintro e w14 ⟨v14,rfl,hr14,hb⟩
   obtain ⟨a14,c14,rfl⟩:=hr14.form
   have HR14:=Hd (hr14.base (B':=w.heap.size) HP.out.1.size (Nat.le_refl _))
   replace HP:=Hd (HP.out.kept hb)
   clear hr14 hb HX13 HR2
   go_wp2
   go_ret
   exact ⟨_,rfl,by rw [HE.out,restL,if_neg (by omega),if_pos hn2];exact HR14.out,HP.out.1⟩
  ·have hl2':(selN (kindP t 2) (colN t)).length=0:=by omega
   go_wp2_with fail
   refine (specl1Sum_any _ (oneL (kindP t 2) (colN t)) (by rw [HlE.out];have:=HC88.out;omega) (Hone.out 2) _ HA2.out).mono ?_
   rintro e wx ⟨rfl,ex⟩
   cases ex
   rw [HsE.out 2]
   rw [hl2']
   go_wp2
   go_ret
   exact ⟨_,rfl,by rw [HE.out,restL,if_neg (by omega),if_neg (by omega)];exact HR2.out,HP.out.1⟩
end Go.Proofs.YtggmjiddadjilaeGreat
namespace Go.Proofs.YtggmjiddadjilaeGreat
open Go.RowKit
set_option maxRecDepth 100000 in
set_option maxHeartbeats 1000000 in
theorem specWidCols (ac ar:Option Addr) (cc cr:Nat) (t:T) (hD:Drawn t) (width:Int) (w:World) {z:Nat} (hc:ColsAt w z (.slice ac t.cols.length cc) t.cols) (hr:RowsAt w z (.slice ar t.rows.length cr) t.rows) :
  Calls Tryz.prog 19 #[.agg #[.slice ac t.cols.length cc,.int .i64 t.head,.int .i64 t.foot,.slice ar t.rows.length cr,.int .i64 t.gap],.int .i64 width] w fun e w'=>∃ v,e=.returned v∧RowI w' w.heap.size w'.heap.size v (widT t width)∧Below w.heap.size w w':=by
 have K0:=k_alloc (Below.refl w.heap.size w) (.cells #[.slice ac t.cols.length cc,.int .i64 t.head,.int .i64 t.foot,.slice ar t.rows.length cr,.int .i64 t.gap] 26)
 have X0:=newestB w (.cells #[.slice ac t.cols.length cc,.int .i64 t.head,.int .i64 t.foot,.slice ar t.rows.length cr,.int .i64 t.gap] 26)
 obtain ⟨W0,hW0⟩:∃ W0,w.alloc (.cells #[.slice ac t.cols.length cc,.int .i64 t.head,.int .i64 t.foot,.slice ar t.rows.length cr,.int .i64 t.gap] 26)=W0:=⟨_,rfl⟩
 rw [hW0] at K0 X0
 have HP:Hid (Below w.heap.size w W0∧TA W0 z ac ar cc cr t∧W0.heap[w.heap.size]?=some (.cells #[.slice ac t.cols.length cc,.int .i64 t.head,.int .i64 t.foot,.slice ar t.rows.length cr,.int .i64 t.gap] 26)):=⟨K0,⟨hc.kept K0,hr.kept K0⟩,X0⟩
 have KO:=Hd (specTblOk ac ar cc cr t W0 HP.out.2.1.1 HP.out.2.1.2)
 obtain ⟨b0,b1,b2,b3,b4⟩:=fiveO X0
 clear hc hr K0 X0
 cases htk:tblB t with
 | false =>
  rw [htk] at KO
  have HE:Hid (widT t width=[]):=by rw [Hid,widT,htk];rfl
  clear htk
  go_enter Tryz.func19,Tryz.ntmps19
  go_upto_region 1 with fail
  clear hW0
  go_wp2_with fail
  refine KO.out.mono ?_
  rintro e w1 ⟨rfl,hb1⟩
  have HK1:=Hd (k_trans HP.out.1 hb1)
  clear hb1 KO b0 b1 b2 b3 b4 HP
  go_wp2
  go_ret
  exact ⟨_,rfl,by rw [HE.out];exact row_lit0 _ _ HK1.out.size,k_alloc HK1.out _⟩
 | true =>
  rw [htk] at KO
  have HIn:=Hd (l1In_any width 0 300)
  cases hin:inB width 0 300 with
  | false =>
   have HE:Hid (widT t width=[]):=by rw [Hid,widT,htk,hin];rfl
   rw [hin] at HIn
   clear htk hin hD
   go_enter Tryz.func19,Tryz.ntmps19
   go_upto_region 1 with fail
   clear hW0
   go_wp2_with fail
   refine KO.out.mono ?_
   rintro e w1 ⟨rfl,hb1⟩
   have HK1:=Hd (k_trans HP.out.1 hb1)
   clear hb1 KO b0 b1 b2 b3 b4 HP
   go_wp2_with fail
   refine (HIn.out _).mono ?_
   rintro e w2 ⟨rfl,rfl⟩
   go_wp2
   go_ret
   exact ⟨_,rfl,by rw [HE.out];exact row_lit0 _ _ HK1.out.size,k_alloc HK1.out _⟩
  | true =>
   have K3:=Hd (fun W h=>l3Of_g ac ar cc cr t hD htk W (z:=z) h)
   have hw:0≤width∧width≤300:=by simpa [inB] using hin
   have KL:=Hd (fun ag cg W zg h1 h2 h3=>specl6Cols ac ar cc cr t hD ag cg width hw htk W (z:=z) (zg:=zg) h1 h2 h3)
   have HE:Hid (widT t width=widL t width):=by rw [Hid,widT,htk,hin];rfl
   rw [hin] at HIn
   clear htk hin hD
   go_enter Tryz.func19,Tryz.ntmps19
   go_upto_region 1 with fail
   clear hW0
   go_wp2_with fail
   refine KO.out.mono ?_
   rintro e w1 ⟨rfl,hb1⟩
   have HP1:Hid (Below w.heap.size w w1∧TA w1 z ac ar cc cr t∧w1.heap[w.heap.size]?=some (.cells #[.slice ac t.cols.length cc,.int .i64 t.head,.int .i64 t.foot,.slice ar t.rows.length cr,.int .i64 t.gap] 26)):=⟨k_trans HP.out.1 hb1,HP.out.2.1.kept hb1,(hb1.block _ (bL HP.out.2.2)).trans HP.out.2.2⟩
   clear hb1 KO b0 b1 b2 b3 b4 HP
   go_wp2_with fail
   refine (HIn.out _).mono ?_
   rintro e w1 ⟨rfl,rfl⟩
   go_upto_region 3 with fail
   obtain ⟨b0,b1,b2,b3,b4⟩:=fiveO HP1.out.2.2
   have ht1:=(bL HP1.out.2.2)
   have HTd:Hid (TA w1.drew z ac ar cc cr t):=HP1.out.2.1.kept (k_drew (Below.refl _ _))
   have HBd:=Hd (k_drew HP1.out.1)
   have HXd:Hid (w1.drew.heap[w.heap.size]?=some (.cells #[.slice ac t.cols.length cc,.int .i64 t.head,.int .i64 t.foot,.slice ar t.rows.length cr,.int .i64 t.gap] 26)):=HP1.out.2.2
   go_region_with (first
    | (go_at_call 32;refine (K3.out _ HTd.out.2).mono ?_;rintro e w2 ⟨ag,cg,rfl,hG2,hb2⟩;have HG2:=Hd hG2;have HT2:=Hd (HTd.out.kept hb2);have HB2:=Hd (k_trans HBd.out hb2);have HX2:=Hd ((hb2.block _ (bL HXd.out)).trans HXd.out);clear hG2 hb2;obtain ⟨p0,p1,p2,p3,p4⟩:=fiveO HX2.out;have ht2:=(bL HX2.out))
    | (go_at_call 50;refine (KL.out ag cg _ _ HT2.out.1 HT2.out.2 HG2.out).mono ?_;rintro e w3 ⟨v3,rfl,hr3,hb3⟩;have R3:=Hd (hr3.base (B':=w.heap.size) HB2.out.size (Nat.le_refl _));have HB3:=Hd (k_trans HB2.out hb3);clear hr3 hb3))
   all_goals
    go_wp2
    go_ret
    exact ⟨_,rfl,by rw [HE.out];exact R3.out,HB3.out⟩
set_option maxRecDepth 100000 in
set_option maxHeartbeats 1000000 in
theorem specGrdOf (ac ar:Option Addr) (cc cr:Nat) (t:T) (hD:Drawn t) (w:World) {z:Nat} (hc:ColsAt w z (.slice ac t.cols.length cc) t.cols) (hr:RowsAt w z (.slice ar t.rows.length cr) t.rows) :
  Calls Tryz.prog 111 #[.agg #[.slice ac t.cols.length cc,.int .i64 t.head,.int .i64 t.foot,.slice ar t.rows.length cr,.int .i64 t.gap]] w fun e w'=>∃ vg,e=.returned (.agg #[.int .i64 (gOf t).rows,.int .i64 (gOf t).cols,vg])∧OwnG w' w.heap.size vg (gOf t).cells∧Below w.heap.size w w':=by
 obtain ⟨W0,hW0⟩:∃ W0,(w.alloc (.cells #[.slice ac t.cols.length cc,.int .i64 t.head,.int .i64 t.foot,.slice ar t.rows.length cr,.int .i64 t.gap] 26)).alloc (.cells #[.int .i64 0,.int .i64 0,.slice none 0 0] 36)=W0:=⟨_,rfl⟩
 have K0:Below w.heap.size w W0:=by rw [← hW0];exact k_alloc (k_alloc (Below.refl _ _) _) _
 have hz0:W0.heap.size=w.heap.size+2:=by rw [← hW0];simp
 have T0:W0.heap[w.heap.size]?=some (.cells #[.slice ac t.cols.length cc,.int .i64 t.head,.int .i64 t.foot,.slice ar t.rows.length cr,.int .i64 t.gap] 26):=by rw [← hW0];exact (Below.heap_alloc _ _ _ (by simp)).trans (newestB _ _)
 have X0:W0.heap[w.heap.size+1]?=some (.cells #[.int .i64 0,.int .i64 0,.slice none 0 0] 36):=by
  have:=newestB (w.alloc (.cells #[.slice ac t.cols.length cc,.int .i64 t.head,.int .i64 t.foot,.slice ar t.rows.length cr,.int .i64 t.gap] 26)) (.cells #[.int .i64 0,.int .i64 0,.slice none 0 0] 36)
  rw [hW0] at this
  simpa using this
 have KO:=Hd (specTblOk ac ar cc cr t W0 (hc.kept K0) (hr.kept K0))
 have HR:=Hd hr
 obtain ⟨⟨t0,t1,t2,t3,t4⟩,_⟩:=fiveT T0
 clear hc hr
 cases htk:tblB t with
 | false =>
  rw [htk] at KO
  have hg:gOf t=⟨0,0,[]⟩:=by unfold gOf;rw [if_neg (by rw [htk];simp)]
  have HG:=Hd hg
  clear htk hg hD
  go_enter Tryz.func111,Tryz.ntmps111
  go_wp2_with fail
  refine KO.out.mono ?_
  rintro e w1 ⟨rfl,hb1⟩
  have X1:=blk_kept X0 hb1
  have K1:=k_trans K0 hb1
  obtain ⟨⟨x0,x1,x2⟩,y0,y1,y2⟩:=threeZ X1
  have HB:=Hd (((K1.setCell (p:=⟨w.heap.size+1,0,none⟩) (by show _≤w.heap.size+1;omega) (.int .i64 0)).setCell (p:=⟨w.heap.size+1,1,none⟩) (by show _≤w.heap.size+1;omega) (.int .i64 0)).setCell (p:=⟨w.heap.size+1,2,none⟩) (by show _≤w.heap.size+1;omega) (.slice none 0 0))
  clear hb1 K1 X1 KO hW0 t0 t1 t2 t3 t4
  go_wp2
  exact bodyPost_ret (v:=.agg #[.int .i64 0,.int .i64 0,.slice none 0 0]) (by simp [results,Tryz.results111,go_sem,x0,x1,x2]) rfl ⟨.slice none 0 0,by rw [HG.out],by rw [HG.out];exact ⟨rfl,.inl ⟨rfl,rfl⟩⟩,HB.out⟩
 | true =>
  rw [htk] at KO
  have hg:gOf t=⟨t.rows.length,colsOf (max 1 (t.cols.length:Int)) (gridOf t),gridOf t⟩:=by unfold gOf;rw [if_pos htk]
  have HG:=Hd hg
  have HLow:=Hd (low_of htk hD)
  clear htk hg hD
  go_enter Tryz.func111,Tryz.ntmps111
  go_wp2_with fail
  refine KO.out.mono ?_
  rintro e w1 ⟨rfl,hb1⟩
  have X1:=blk_kept X0 hb1
  have T1:=blk_kept T0 hb1
  have K1:=k_trans K0 hb1
  obtain ⟨⟨s0,s1,s2,s3,s4⟩,_⟩:=fiveT T1
  clear KO hW0 t0 t1 t2 t3 t4
  go_wp2_with fail
  refine (l3Of_any ac ar cc cr t HLow.out w1 (HR.out.kept K1)).mono ?_
  rintro e w2 ⟨vg,rfl,hO2,hb2⟩
  have X2:=blk_kept X1 hb2
  have K2:=k_trans K1 hb2
  obtain ⟨va,vq,rfl,_⟩:=row_form hO2
  obtain ⟨⟨x0,x1,x2⟩,y0,y1,y2⟩:=threeZ X2
  have h1:=setB (p:=0) X2 (.int .i64 (t.rows.length:Int))
  have h2:=setB (p:=1) h1 (.int .i64 (colsOf (max 1 (t.cols.length:Int)) (gridOf t)))
  have o1:=row_set (p:=0) hO2 X2 (by decide) (.int .i64 (t.rows.length:Int))
  have o2:=row_set (p:=1) o1 h1 (by decide) (.int .i64 (colsOf (max 1 (t.cols.length:Int)) (gridOf t)))
  have o3:=row_set (p:=2) o2 h2 (by decide) (.slice va (gridOf t).length vq)
  have hz1:w.heap.size≤w1.heap.size:=K1.size
  have HO:=Hd (row_base o3 hz1)
  have HB:=Hd (((K2.setCell (p:=⟨w.heap.size+1,0,none⟩) (by show _≤w.heap.size+1;omega) (.int .i64 (t.rows.length:Int))).setCell (p:=⟨w.heap.size+1,1,none⟩) (by show _≤w.heap.size+1;omega) (.int .i64 (colsOf (max 1 (t.cols.length:Int)) (gridOf t)))).setCell (p:=⟨w.heap.size+1,2,none⟩) (by show _≤w.heap.size+1;omega) (.slice va (gridOf t).length vq))
  clear h1 h2 o1 o2 o3 hO2 hb2 X2 K2 s0 s1 s2 s3 s4 X1 T1 K1 hb1 X0 T0
  generalize hC:colsOf (max 1 (t.cols.length:Int)) (gridOf t)=C at HG HO HB ⊢
  clear hC
  go_wp2
  exact bodyPost_ret (v:=.agg #[.int .i64 (t.rows.length:Int),.int .i64 C,.slice va (gridOf t).length vq]) (by simp [results,Tryz.results111,go_sem,x0,x1,x2]) rfl ⟨_,by rw [HG.out],by rw [HG.out];exact HO.out,HB.out⟩
end Go.Proofs.YtggmjiddadjilaeGreat
