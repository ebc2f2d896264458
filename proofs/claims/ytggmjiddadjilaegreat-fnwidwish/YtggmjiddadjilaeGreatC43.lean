/-
  PROVED HERE: the law FnWidWish returns true at every code that lies in memory.
-/
import Derived.Test.YtggmjiddadjilaeGreatC37
import Derived.Test.YtggmjiddadjilaeGreatC39
import Derived.Test.YtggmjiddadjilaeGreatC38
import Derived.Test.YtggmjiddadjilaeGreatC41
import Derived.Test.YtggmjiddadjilaeGreatC42
import Derived.Test.YtggmjiddadjilaeGreatC32
import Derived.Test.YtggmjiddadjilaeGreatC20
import Derived.Test.YtggmjiddadjilaeGreatC17
import Derived.Deep.DeepCutAuto
import Derived.Deep.RegionWith
import Derived.Deep.LoopGhost
namespace Go.Proofs.YtggmjiddadjilaeGreat
open Go.RowKit Go.BigFrame
structure SN (w:World) (tb:Nat) (a ar:Option Addr) (cr:Nat) (t:T) (W:World):Prop where
 below:Below w.heap.size w W
 ta:TA W w.heap.size a ar 0 cr (noCols t)
 box:W.heap[tb]?=some (.cells #[.slice a 0 0,.int .i64 t.head,.int .i64 t.foot,.slice ar t.rows.length cr,.int .i64 t.gap] 26)
theorem SN.kept {w W W':World} {tb:Nat} {a ar:Option Addr} {cr:Nat} {t:T} (h:SN w tb a ar cr t W) (k:Below W.heap.size W W'):SN w tb a ar cr t W' :=
 ⟨k_trans h.below k,h.ta.kept k,(k.block tb (bL h.box)).trans h.box⟩
theorem SN.lt {w W:World} {tb:Nat} {a ar:Option Addr} {cr:Nat} {t:T} (h:SN w tb a ar cr t W):tb < W.heap.size:=(bL h.box)
theorem SN.cells {w W:World} {tb:Nat} {a ar:Option Addr} {cr:Nat} {t:T} (h:SN w tb a ar cr t W):W.cell? ⟨tb,0,none⟩=some (.slice a 0 0)∧W.cell? ⟨tb,1,none⟩=some (.int .i64 t.head)∧W.cell? ⟨tb,2,none⟩=some (.int .i64 t.foot)∧W.cell? ⟨tb,3,none⟩=some (.slice ar t.rows.length cr)∧W.cell? ⟨tb,4,none⟩=some (.int .i64 t.gap):=⟨cellB h.box,cellB h.box,cellB h.box,cellB h.box,cellB h.box⟩
theorem SN.bw {w W:World} {tb:Nat} {a ar:Option Addr} {cr:Nat} {t:T} (h:SN w tb a ar cr t W):(∀ p:BW W,p.u.cell? ⟨tb,0,none⟩=some (.slice a 0 0))∧(∀ p:BW W,p.u.cell? ⟨tb,1,none⟩=some (.int .i64 t.head))∧(∀ p:BW W,p.u.cell? ⟨tb,2,none⟩=some (.int .i64 t.foot))∧(∀ p:BW W,p.u.cell? ⟨tb,3,none⟩=some (.slice ar t.rows.length cr))∧(∀ p:BW W,p.u.cell? ⟨tb,4,none⟩=some (.int .i64 t.gap)) :=
 ⟨bw_cell (a:=⟨tb,0,none⟩) h.lt h.cells.1,bw_cell (a:=⟨tb,1,none⟩) h.lt h.cells.2.1,bw_cell (a:=⟨tb,2,none⟩) h.lt h.cells.2.2.1,bw_cell (a:=⟨tb,3,none⟩) h.lt h.cells.2.2.2.1,bw_cell (a:=⟨tb,4,none⟩) h.lt h.cells.2.2.2.2⟩
theorem SN.mk' {w w1:World} {ar:Option Addr} {cr:Nat} {t:T} (hb:Below w.heap.size w w1) (hr:RowsAt w1 w.heap.size (.slice ar t.rows.length cr) t.rows) :
  SN w w1.heap.size (some ⟨w1.heap.size+1,0,none⟩) ar cr t ((w1.alloc (.cells #[.slice (some ⟨w1.heap.size+1,0,none⟩) 0 0,.int .i64 t.head,.int .i64 t.foot,.slice ar t.rows.length cr,.int .i64 t.gap] 26)).alloc (.cells #[] 45)):=by
 have K:Below w1.heap.size w1 ((w1.alloc (.cells #[.slice (some ⟨w1.heap.size+1,0,none⟩) 0 0,.int .i64 t.head,.int .i64 t.foot,.slice ar t.rows.length cr,.int .i64 t.gap] 26)).alloc (.cells #[] 45)) :=
  k_alloc (k_alloc (Below.refl _ _) _) _
 refine ⟨k_trans hb K,⟨?_,RowsAt.kept hr K⟩,?_⟩
 ·exact ⟨_,0,rfl,Nat.le_refl _,Nat.zero_le _,fun i hi=>absurd hi (Nat.not_lt_zero _)⟩
 ·exact (Below.heap_alloc _ _ _ (by simp)).trans (newestB _ _)
structure WwF (t:T) (x:Int) (WL QL:List Int) (LL:List (List ByteArray)):Prop where
 len:QL.length≤100
 wt:QL.all wtB=true
 gap:-1≤t.gap∧t.gap≤4
 same:WL.length ≠ 0→QL.length=WL.length∧1≤QL.length
 sum:0≤QL.sum∧QL.sum≤1000000
 mul:-1000≤t.gap * ((QL.length:Int) - 1)∧t.gap * ((QL.length:Int) - 1)≤1000
 wide:WL.length ≠ 0→¬ x < QL.sum+t.gap * ((QL.length:Int) - 1)→∀ k,k < WL.length→¬ WL.getD k 0 < QL.getD k 0
 lines:WL.length ≠ 0→¬ x < QL.sum+t.gap * ((QL.length:Int) - 1)→∀ k,k < LL.length→(LL.getD k []).length≤1
theorem ww_facts {t:T} (hD:Drawn t) (x:Int):WwF t x (widT (noCols t) x) (wishL (noCols t)) (linesT (noCols t) x):=by
 have hD':=noCols_drawn hD
 obtain ⟨_,C,hgc,hC,_⟩:=cel_of hD'
 have hCN:=colN_of hgc
 have hwl:=wishL_len (noCols t)
 have hup:=wishL_up hD'
 have hsb:=sum_upB (l:=wishL (noCols t)) (B:=5000) (fun y hy=>hup.mem hy)
 have hga:=hD.gap
 have hall:(wishL (noCols t)).all wtB=true:=by
  rw [List.all_eq_true]
  intro y hy
  have:=hup.mem hy
  simp only [wtB,decide_eq_true_eq]
  omega
 refine ⟨by omega,hall,hga,fun h0=>?_,?_,?_,fun h0 hn=>?_,fun h0 hn=>?_⟩
 ·obtain ⟨hok,hx,he⟩:=widT_yes (t:=noCols t) (x:=x) (by omega)
  have h1:=(wid_facts hD' hok hx).1
  rw [he,h1]
  obtain ⟨hc1,_⟩:=acr_least hD' hok
  omega
 ·have:((wishL (noCols t)).length:Int)≤88:=by omega
  omega
 ·generalize (wishL (noCols t)).length=n at *
  have h1:n≤88:=by omega
  rcases (by omega:t.gap=-1∨t.gap=0∨t.gap=1∨t.gap=2∨t.gap=3∨t.gap=4) with h | h | h | h | h | h <;> rw [h] <;> omega
 ·rw [hwl] at hn
  exact (one_each hD' rfl (by omega) hn).1
 ·rw [hwl] at hn
  exact (one_each hD' rfl (by omega) hn).2
set_option maxRecDepth 100000 in
set_option maxHeartbeats 4000000 in
theorem lawWidWish_walk (A:Option Addr) (len cap:Nat) (hlen:len≤1048576) (w:World) (h:IsCode w A len cap) :
  Calls Tryz.prog 6 #[.slice A len cap] w fun e w'=>e=.returned (.bool true)∧Below w.heap.size w w':=by
 have hl:¬ (1048576:Int) < (len:Int):=by omega
 have hmx:Tryz.prog.follows .mixedOrders=true:=by kernel_rfl
 have HD:=Hd h
 clear h
 go_enter Tryz.func6,Tryz.ntmps6
 go_wp2_with fail
 refine (drawWidCols_any _ _ _ _ HD.out).mono ?_
 rintro e w1 ⟨ac,ar,cc,cr,t,x,rfl,hD,hxb,hC1,hW1,hb1⟩
 have HS:=Hd (SN.mk' hb1 hW1)
 have hD':=noCols_drawn hD
 have HF:=Hd (ww_facts hD x)
 have HWi:Hid (∀ (a:Option Addr) W,TA W w.heap.size a ar 0 cr (noCols t)→Calls Tryz.prog 17 #[.agg #[.slice a 0 0,.int .i64 t.head,.int .i64 t.foot,.slice ar t.rows.length cr,.int .i64 t.gap],.int .i64 x] W fun e w'=>∃ v,e=.returned v∧RowI w' W.heap.size w'.heap.size v (widT (noCols t) x)∧Below W.heap.size W w'):=fun a W h=>implWidCols a ar 0 cr (noCols t) hD' x W h.1 h.2
 have HWs:Hid (∀ (a:Option Addr) W,TA W w.heap.size a ar 0 cr (noCols t)→Calls Tryz.prog 19 #[.agg #[.slice a 0 0,.int .i64 t.head,.int .i64 t.foot,.slice ar t.rows.length cr,.int .i64 t.gap],.int .i64 x] W fun e w'=>∃ v,e=.returned v∧RowI w' W.heap.size w'.heap.size v (widT (noCols t) x)∧Below W.heap.size W w'):=fun a W h=>specWidCols a ar 0 cr (noCols t) hD' x W h.1 h.2
 have HQi:Hid (∀ (a:Option Addr) W,TA W w.heap.size a ar 0 cr (noCols t)→Calls Tryz.prog 26 #[.agg #[.slice a 0 0,.int .i64 t.head,.int .i64 t.foot,.slice ar t.rows.length cr,.int .i64 t.gap]] W fun e w'=>∃ v,e=.returned v∧RowI w' W.heap.size w'.heap.size v (wishL (noCols t))∧Below W.heap.size W w'):=fun a W h=>implColWish a ar 0 cr (noCols t) hD' W h.1 h.2
 have HLi:Hid (∀ (a:Option Addr) W,TA W w.heap.size a ar 0 cr (noCols t)→Calls Tryz.prog 28 #[.agg #[.slice a 0 0,.int .i64 t.head,.int .i64 t.foot,.slice ar t.rows.length cr,.int .i64 t.gap],.int .i64 x] W fun e w'=>∃ v,e=.returned v∧LlsAt w' W.heap.size v (linesT (noCols t) x)∧Below W.heap.size W w'):=fun a W h=>implHgtLines a ar 0 cr (noCols t) hD' x W h.1 h.2
 have HTi:Hid (∀ (a:Option Addr) W,TA W w.heap.size a ar 0 cr (noCols t)→Calls Tryz.prog 27 #[.agg #[.slice a 0 0,.int .i64 t.head,.int .i64 t.foot,.slice ar t.rows.length cr,.int .i64 t.gap]] W fun e w'=>e=.returned (.bool (tblB (noCols t)))∧Below W.heap.size W w'):=fun a W h=>implTblOk a ar 0 cr (noCols t) W h.1 h.2
 have HTs:Hid (∀ (a:Option Addr) W,TA W w.heap.size a ar 0 cr (noCols t)→Calls Tryz.prog 10 #[.agg #[.slice a 0 0,.int .i64 t.head,.int .i64 t.foot,.slice ar t.rows.length cr,.int .i64 t.gap]] W fun e w'=>e=.returned (.bool (tblB (noCols t)))∧Below W.heap.size W w'):=fun a W h=>specTblOk a ar 0 cr (noCols t) W h.1 h.2
 generalize widT (noCols t) x=WL at HF HWi HWs
 generalize wishL (noCols t)=QL at HF HQi
 generalize linesT (noCols t) x=LL at HF HLi
 generalize tblB (noCols t)=ok at HTi HTs
 clear hC1 hW1 hb1 hD HD hD' hxb
 go_upto_region 5 with fail
 generalize (w1.alloc (.cells #[.slice (some ⟨w1.heap.size+1,0,none⟩) 0 0,.int .i64 t.head,.int .i64 t.foot,.slice ar t.rows.length cr,.int .i64 t.gap] 26)).alloc (.cells #[] 45)=W1 at HS ⊢
 generalize w1.heap.size+1=nb at HS ⊢
 generalize w1.heap.size=tb at HS ⊢
 obtain ⟨z0,z1,z2,z3,z4⟩:=HS.out.cells
 go_wp2_with fail
 refine (HWi.out _ _ HS.out.ta).mono ?_
 rintro e w2 ⟨v2,rfl,hR2,hb2⟩
 obtain ⟨al,cl,rfl⟩:=hR2.form
 have HI:=Hd hR2.at
 replace HS:=Hd (HS.out.kept hb2)
 clear hR2 hb2 z0 z1 z2 z3 z4 HWi
 obtain ⟨z0,z1,z2,z3,z4⟩:=HS.out.cells
 go_wp2_with fail
 refine (HWs.out _ _ HS.out.ta).mono ?_
 rintro e w4 ⟨v4,rfl,hR4,hb4⟩
 obtain ⟨a4,c4,rfl⟩:=hR4.form
 have HJ:=Hd hR4.at
 replace HI:=Hd (HI.out.kept hb4)
 replace HS:=Hd (HS.out.kept hb4)
 clear hR4 hb4 z0 z1 z2 z3 z4 HWs
 go_wp2_with fail
 refine (pwInts_any _ _ WL _ HI.out HJ.out).mono ?_
 rintro e w5 ⟨rfl,n5,e5⟩
 have HI5:Hid (IntsAt w5 (.slice al WL.length cl) WL):=by rw [e5];exact HI.out.kept (k_drewN (Below.refl _ _) n5)
 have HS5:Hid (SN w tb (some ⟨nb,0,none⟩) ar cr t w5):=by rw [e5];exact HS.out.kept (k_drewN (Below.refl _ _) n5)
 clear e5 HI HJ HS
 obtain ⟨z0,z1,z2,z3,z4⟩:=HS5.out.cells
 go_wp2_with fail
 refine (HQi.out _ _ HS5.out.ta).mono ?_
 rintro e w6 ⟨v6,rfl,hR6,hb6⟩
 obtain ⟨aq,cq,rfl⟩:=hR6.form
 have HQ:=Hd hR6.at
 have HI:=Hd (HI5.out.kept hb6)
 have HS:=Hd (HS5.out.kept hb6)
 clear hR6 hb6 z0 z1 z2 z3 z4 HQi HI5 HS5
 have hQ100:=HF.out.len
 have KS:=Hd (fun (p:BW w6)=>bw_same (lawspwSum_any _ QL (by omega) HF.out.wt p.u (HQ.out.kept p.h)))
 obtain ⟨m0,m1,m2,m3,m4⟩:=HS.out.bw
 have hne:=bw_some w6
 obtain ⟨_,_,_,hLL⟩:=HI.out.form
 by_cases hw0:WL.length=0
 ·as_aux_lemma =>
   obtain rfl:WL=[]:=List.eq_nil_of_length_eq_zero hw0
   clear hw0 HF HLi
   go_upto_region 9 with fail
   refine wp_region_quiet_below hmx (by kernel_rfl) ?_
   repeat (go_big_quiet_step (first | (go_at_call 12;refine KS.out _)))
   refine wpQuiet_nil ?_
   intro W7 hw'
   obtain ⟨⟨Wx,hW7⟩,hw''⟩:=hw'
   subst hw''
   replace HS:=Hd (HS.out.kept hW7)
   replace HI:=Hd (HI.out.kept hW7)
   replace HQ:=Hd (HQ.out.kept hW7)
   clear m0 m1 m2 m3 m4 hne KS hW7
   obtain ⟨m0,m1,m2,m3,m4⟩:=HS.out.bw
   have hne:=bw_some W7
   have KT1:=Hd (fun (p:BW W7)=>bw_of (HTi.out _ p.u (HS.out.kept p.h).ta))
   have KT2:=Hd (fun (p:BW W7)=>bw_of (HTs.out _ p.u (HS.out.kept p.h).ta))
   have KP:=Hd (fun (p:BW W7)=>bw_same (pwOk_any p.u))
   have e2:(ok == ok)=true:=by simp
   go_upto_region 10 with fail
   refine wp_region_quiet_below hmx (by kernel_rfl) ?_
   repeat (go_big_quiet_step (first | (go_at_call 27;refine KT1.out _) | (go_at_call 10;refine KT2.out _) | (go_at_call 11;refine KP.out _)))
   refine wpQuiet_nil ?_
   intro W8 hw'
   obtain ⟨⟨Wy,hW8⟩,hw''⟩:=hw'
   subst hw''
   have HB:=Hd (HS.out.kept hW8).below
   clear m0 m1 m2 m3 m4 hne KT1 KT2 KP hW8
   go_wp2
   go_ret
   exact ⟨rfl,HB.out⟩
 obtain ⟨hsm,hq1⟩:=HF.out.same hw0
 have hsu:=HF.out.sum
 have hmu:=HF.out.mul
 have hga:=HF.out.gap
 have HX:=Hd (fun h=>HF.out.wide hw0 h)
 have HY:=Hd (fun h=>HF.out.lines hw0 h)
 have hb0:((WL.length:Int) == 0)=false:=beq_eq_false_iff_ne.2 (by omega)
 have HSm:=Hd hsm
 clear HF hsm
 generalize QL.sum=sm at KS hsu HX HY
 generalize hgp:t.gap * ((QL.length:Int) - 1)=gp at hmu HX HY
 by_cases hlt:x < sm+gp
 ·as_aux_lemma =>
   clear HX HY HLi
   go_upto_region 9 with fail
   refine wp_region_quiet_below hmx (by kernel_rfl) ?_
   repeat (go_big_quiet_step (first | (go_at_call 12;refine KS.out _)))
   refine wpQuiet_nil ?_
   intro W7 hw'
   obtain ⟨⟨Wx,hW7⟩,hw''⟩:=hw'
   subst hw''
   replace HS:=Hd (HS.out.kept hW7)
   replace HI:=Hd (HI.out.kept hW7)
   replace HQ:=Hd (HQ.out.kept hW7)
   clear m0 m1 m2 m3 m4 hne KS hW7
   clear hgp
   obtain ⟨m0,m1,m2,m3,m4⟩:=HS.out.bw
   have hne:=bw_some W7
   have KT1:=Hd (fun (p:BW W7)=>bw_of (HTi.out _ p.u (HS.out.kept p.h).ta))
   have KT2:=Hd (fun (p:BW W7)=>bw_of (HTs.out _ p.u (HS.out.kept p.h).ta))
   have KP:=Hd (fun (p:BW W7)=>bw_same (pwOk_any p.u))
   have e2:(ok == ok)=true:=by simp
   go_upto_region 10 with fail
   refine wp_region_quiet_below hmx (by kernel_rfl) ?_
   repeat (go_big_quiet_step (first | (go_at_call 27;refine KT1.out _) | (go_at_call 10;refine KT2.out _) | (go_at_call 11;refine KP.out _)))
   refine wpQuiet_nil ?_
   intro W8 hw'
   obtain ⟨⟨Wy,hW8⟩,hw''⟩:=hw'
   subst hw''
   have HB:=Hd (HS.out.kept hW8).below
   clear m0 m1 m2 m3 m4 hne KT1 KT2 KP hW8
   go_wp2
   go_ret
   exact ⟨rfl,HB.out⟩
 replace HX:=Hd (HX.out hlt)
 replace HY:=Hd (HY.out hlt)
 go_upto_region 9 with fail
 refine wp_region_quiet_below hmx (by kernel_rfl) ?_
 repeat (go_big_quiet_step (first | (go_at_call 12;refine KS.out _)))
 refine wpQuiet_nil ?_
 intro W7 hw'
 obtain ⟨⟨Wx,hW7⟩,hw''⟩:=hw'
 subst hw''
 replace HS:=Hd (HS.out.kept hW7)
 replace HI:=Hd (HI.out.kept hW7)
 replace HQ:=Hd (HQ.out.kept hW7)
 clear m0 m1 m2 m3 m4 hne KS hW7
 have HI0:=HI
 have HS0:=HS
 have HQ0:=HQ
 go_upto_region 11 with fail
 clear hgp hlt hsu hmu hga hb0
 go_wp2_with fail
 go_loopw [7] (fun s W=>∃ k n:Nat,s=.int .i64 k∧k≤WL.length∧W=W7.drewN n) (fun s _=>WL.length - (intOf s).toNat)
 case atStart=>exact ⟨0,0,rfl,Nat.zero_le _,rfl⟩
 case round=>as_aux_lemma =>
  obtain ⟨k,nd,rfl,hk,rfl⟩:=hrel
  by_cases hkl:k < WL.length
  ·obtain ⟨b1,off1,cap1',e1,hc11,hc12,hbl1,x0⟩:=HI.out.get hkl
   simp only [Value.slice.injEq,true_and] at e1
   obtain ⟨rfl,rfl⟩:=e1
   have hkq:k < QL.length:=by rw [HSm.out];exact hkl
   obtain ⟨b2,off2,cap2',e2,hc21,hc22,hbl2,y0⟩:=HQ.out.get hkq
   simp only [Value.slice.injEq,true_and] at e2
   obtain ⟨rfl,rfl⟩:=e2
   have hxx:=HX.out k hkl
   unfold maxLen at hc12 hc22
   generalize WL.getD k 0=p at x0 hxx
   generalize QL.getD k 0=q at y0 hxx
   clear HX HY HLi HTi HTs HS HS0 HI HI0 HQ HQ0
   go_wp2_with fail
   go_quiet (fail)
   go_wp2
   go_roundw
   case rel=>exact ⟨k+1,nd+nq,by go_num,by omega,rfl⟩
   case measure=>simp [intOf];omega
  ·obtain rfl:k=WL.length:=by omega
   replace HS:=Hd (HS.out.kept (k_drewN (Below.refl _ _) nd))
   clear HS0 HI HI0 HQ HQ0 HX HTi HTs
   generalize W7.drewN nd=W8 at *
   obtain ⟨z0,z1,z2,z3,z4⟩:=HS.out.cells
   go_wp2_with fail
   refine (HLi.out _ _ HS.out.ta).mono ?_
   rintro e w9 ⟨v9,rfl,hR9,hb9⟩
   obtain ⟨a9,c9,rfl,h9⟩:=At.form hR9
   have HJ:=Hd hR9
   replace HS:=Hd (HS.out.kept hb9)
   clear hR9 hb9 z0 z1 z2 z3 z4 HLi
   unfold maxLen at h9
   go_wp2_with fail
   go_loopw [9] (fun s W=>∃ k:Nat,s=.int .i64 k∧k≤LL.length∧Hid (LlsAt W W8.heap.size (.slice a9 LL.length c9) LL)∧Hid (Below w.heap.size w W)) (fun s _=>LL.length - (intOf s).toNat)
   case atStart=>exact ⟨0,rfl,Nat.zero_le _,HJ,HS.out.below⟩
   case round=>as_aux_lemma =>
    clear HJ HS
    obtain ⟨j,rfl,hj,HJ,HB⟩:=hrel
    by_cases hjl:j < LL.length
    ·obtain ⟨bl,offl,cl',ul,el,hl1,hl2,hlb,hlx,hls⟩:=HJ.out.get (i:=j) hjl
     simp only [Value.slice.injEq,true_and] at el
     obtain ⟨rfl,rfl⟩:=el
     have hy:=HY.out j hjl
     generalize LL.getD j []=ln at hls hy
     obtain ⟨au,cu,rfl,hlnl⟩:=At.form hls
     unfold maxLen at hl2 hlnl
     have hy1:(1 < ln.length)=False:=by simp;omega
     clear hls HY
     go_wp2
     go_roundw
     case rel=>exact ⟨j+1,by go_num,by omega,HJ,HB⟩
     case measure=>simp [intOf];omega
    ·obtain rfl:j=LL.length:=by omega
     go_wp2
     go_ret
     exact ⟨rfl,HB.out⟩
theorem lawWidWish (A:Option Addr) (len cap:Nat) (w:World) (h:IsCode w A len cap) :
  Calls Tryz.prog 6 #[.slice A len cap] w fun e w'=>e=.returned (.bool true)∧Below w.heap.size w w':=by
 by_cases hl:len≤1048576
 ·exact lawWidWish_walk A len cap hl w h
 ·have hl':(1048576:Int) < (len:Int):=by omega
  go_enter Tryz.func6,Tryz.ntmps6
  go_wp2
  go_ret
  exact ⟨rfl,Below.refl _ _⟩
end Go.Proofs.YtggmjiddadjilaeGreat
