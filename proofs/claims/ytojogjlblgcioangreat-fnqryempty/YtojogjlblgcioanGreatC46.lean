/-
  PROVED HERE: the law FnQryEmpty returns true at every code that lies in memory.
-/
import Derived.Test.YtojogjlblgcioanGreatC37
import Derived.Test.YtojogjlblgcioanGreatC41
import Derived.Test.YtojogjlblgcioanGreatC42
import Derived.Test.YtojogjlblgcioanGreatC44
import Derived.Test.YtojogjlblgcioanGreatC32
import Derived.Test.YtojogjlblgcioanGreatC45
import Derived.Test.YtojogjlblgcioanGreatC33
import Derived.Test.YtojogjlblgcioanGreatC12
namespace Go.Proofs.YtojogjlblgcioanGreat
open Go.RowKit Go.BigFrame
set_option maxRecDepth 100000 in
set_option maxHeartbeats 4000000 in
theorem lawQE_walk (A:Option Addr) (len cap:Nat) (hlen:len≤1048576) (w:World) (h:IsCode w A len cap) :
  Calls Tryz.prog 3 #[.slice A len cap] w fun e w'=>e=.returned (.bool true)∧Below w.heap.size w w':=by
 have hl:¬ (1048576:Int) < (len:Int):=by omega
 have hmx:Tryz.prog.follows .mixedOrders=true:=by kernel_rfl
 have HD:=Hd h
 clear h
 go_enter Tryz.func3,Tryz.ntmps3
 go_wp2_with fail
 refine (drawQryHit_any _ _ _ _ HD.out).mono ?_
 rintro e w1 ⟨ac,ar,cc,cr,t,x,p,q,rfl,hD,hp,hq,hC1,hW1,hb1⟩
 have HS:Hid (St w w1.heap.size ac ar cc cr t (w1.alloc (.cells #[.slice ac t.cols.length cc,.int .i64 t.head,.int .i64 t.foot,.slice ar t.rows.length cr,.int .i64 t.gap] 26))):=⟨hb1.alloc hb1.size _,TA.kept ⟨hC1,hW1⟩ (k_alloc (Below.refl _ _) _),newestB _ _⟩
 have hF:=emF hD x
 have HF:=Hd hF
 have hwR:=hF.rw
 have hlR:=hF.rlen
 have hlC:=hF.clen
 have HTi:Hid (∀ W,TA W w.heap.size ac ar cc cr t→Calls Tryz.prog 8 #[.agg #[.slice ac t.cols.length cc,.int .i64 t.head,.int .i64 t.foot,.slice ar t.rows.length cr,.int .i64 t.gap],.int .i64 x] W fun e w'=>e=.returned (.int .i64 (tabV t x))∧Below W.heap.size W w'):=fun W h=>implWidTable ac ar cc cr t hD x W h.1 h.2
 have HTs:=Hd (fun W (h:TA W w.heap.size ac ar cc cr t)=>specWidTable ac ar cc cr t hD x W h.1 h.2)
 have HWi:=Hd (fun W (h:TA W w.heap.size ac ar cc cr t)=>implWidCols ac ar cc cr t hD x W h.1 h.2)
 have HRi:=Hd (fun W (h:TA W w.heap.size ac ar cc cr t)=>implHgtRows ac ar cc cr t hD x W h.1 h.2)
 have HGi:=Hd (fun W (h:TA W w.heap.size ac ar cc cr t)=>implGrdOf ac ar cc cr t hD W h.1 h.2)
 have HOk:=Hd (gOf_gok hD)
 have KHs:Hid (∀ (r c:Nat),r < (rowsT t x).length→c < (widT t x).length→0 < (widT t x).getD c 0→0 < (rowsT t x).getD r 0→∀ W,TA W w.heap.size ac ar cc cr t→Calls Tryz.prog 14 #[.agg #[.slice ac t.cols.length cc,.int .i64 t.head,.int .i64 t.foot,.slice ar t.rows.length cr,.int .i64 t.gap],.int .i64 x,.int .i64 (atV (widT t x) t.gap (c:Int)),.int .i64 (atV (rowsT t x) 0 (r:Int))] W fun e w'=>e=.returned (.int .i64 (findTo (holdsB (r:Int) (c:Int)) (gOf t).cells))∧Below W.heap.size W w'):=fun r c h1 h2 h3 h4 W hW=>(implQryHit ac ar cc cr t hD x _ _ (by have:=W_bounds (sumTo (widT t x) (aheadN (widT t x) c)+t.gap * (aheadN (widT t x) c:Nat));exact this) (by have:=W_bounds (sumTo (rowsT t x) (aheadN (rowsT t x) r)+0 * (aheadN (rowsT t x) r:Nat));exact this) W hW.1 hW.2).mono (fun e w' ⟨q,e1,e2,e3⟩=>⟨by rw [e1,HF.out.slot r c h1 h2 h3 h4 q e2],e3⟩)
 have KH1:Hid (∀ W,TA W w.heap.size ac ar cc cr t→Calls Tryz.prog 14 #[.agg #[.slice ac t.cols.length cc,.int .i64 t.head,.int .i64 t.foot,.slice ar t.rows.length cr,.int .i64 t.gap],.int .i64 x,.int .i64 (tabV t x),.int .i64 0] W fun e w'=>e=.returned (.int .i64 (-1))∧Below W.heap.size W w'):=fun W hW=>(implQryHit ac ar cc cr t hD x _ _ hF.tab (by unfold I64;omega) W hW.1 hW.2).mono (fun e w' ⟨q,e1,e2,e3⟩=>⟨by rw [e1,HF.out.out1 q e2],e3⟩)
 have KH2:Hid (∀ W,TA W w.heap.size ac ar cc cr t→Calls Tryz.prog 14 #[.agg #[.slice ac t.cols.length cc,.int .i64 t.head,.int .i64 t.foot,.slice ar t.rows.length cr,.int .i64 t.gap],.int .i64 x,.int .i64 0,.int .i64 (rowsT t x).sum] W fun e w'=>e=.returned (.int .i64 (-1))∧Below W.heap.size W w'):=fun W hW=>(implQryHit ac ar cc cr t hD x _ _ (by unfold I64;omega) hF.sum W hW.1 hW.2).mono (fun e w' ⟨q,e1,e2,e3⟩=>⟨by rw [e1,HF.out.out2 q e2],e3⟩)
 clear hC1 hW1 hb1 hD HD hF HF hp hq
 go_upto_region 4 with fail
 generalize w1.alloc (.cells #[.slice ac t.cols.length cc,.int .i64 t.head,.int .i64 t.foot,.slice ar t.rows.length cr,.int .i64 t.gap] 26)=W1 at HS ⊢
 generalize w1.heap.size=tb at HS ⊢
 generalize tabV t x=tv at HTi HTs KH1
 generalize widT t x=CL at HWi KHs hlC
 generalize rowsT t x=RL at HRi KHs KH2 hwR hlR
 have hvv:(tv != tv)=false:=by simp
 have htb:=(bL HS.out.2.2)
 have m0:=bw_cell (a:=⟨tb,0,none⟩) htb (cellB (p:=0) HS.out.2.2)
 have m1:=bw_cell (a:=⟨tb,1,none⟩) htb (cellB (p:=1) HS.out.2.2)
 have m2:=bw_cell (a:=⟨tb,2,none⟩) htb (cellB (p:=2) HS.out.2.2)
 have m3:=bw_cell (a:=⟨tb,3,none⟩) htb (cellB (p:=3) HS.out.2.2)
 have m4:=bw_cell (a:=⟨tb,4,none⟩) htb (cellB (p:=4) HS.out.2.2)
 have hne:=bw_some W1
 have KT1:=Hd (fun (p:BW W1)=>bw_of (HTi.out p.u (HS.out.kept p.h).2.1))
 have KT2:=Hd (fun (p:BW W1)=>bw_of (HTs.out p.u (HS.out.kept p.h).2.1))
 refine wp_region_quiet_below hmx (by kernel_rfl) ?_
 repeat (go_big_quiet_step (first | (go_at_call 8;refine KT1.out _) | (go_at_call 9;refine KT2.out _)))
 refine wpQuiet_nil ?_
 intro W2 hw'
 obtain ⟨⟨Wx,hW2⟩,hw''⟩:=hw'
 subst hw''
 replace HS:=Hd (HS.out.kept hW2)
 clear m0 m1 m2 m3 m4 hne KT1 KT2 hW2 htb hvv HTs
 obtain ⟨z0,z1,z2,z3,z4⟩:=HS.out.at
 go_wp2_with fail
 refine (HWi.out _ HS.out.2.1).mono ?_
 rintro e w4 ⟨v4,rfl,hR4,hb4⟩
 obtain ⟨a4,c4,rfl⟩:=hR4.form
 have HI4:=Hd hR4.at
 replace HS:=Hd (HS.out.kept hb4)
 clear hR4 hb4 z0 z1 z2 z3 z4 HWi
 obtain ⟨z0,z1,z2,z3,z4⟩:=HS.out.at
 go_wp2_with fail
 refine (HRi.out _ HS.out.2.1).mono ?_
 rintro e w5 ⟨v5,rfl,hR5,hb5⟩
 obtain ⟨a5,c5,rfl⟩:=hR5.form
 have HE5:=Hd hR5.at
 have HI5:=Hd (HI4.out.kept hb5)
 replace HS:=Hd (HS.out.kept hb5)
 clear hR5 hb5 z0 z1 z2 z3 z4 HRi HI4
 obtain ⟨z0,z1,z2,z3,z4⟩:=HS.out.at
 go_wp2_with fail
 refine (HGi.out _ HS.out.2.1).mono ?_
 rintro e w6 ⟨vg,rfl,hO6,hb6⟩
 obtain ⟨ag,cg,rfl⟩:=own_slice hO6
 have hG6:=hO6.at HOk.out
 have HGr0:Hid (SGr w tb w6.heap.size ac ar cc cr t ag cg (w6.alloc (.cells #[.int .i64 (gOf t).rows,.int .i64 (gOf t).cols,.slice ag (gOf t).cells.length cg] 34))) :=
  ⟨(HS.out.kept hb6).kept (k_alloc (Below.refl _ _) _),(hG6.base (by have:=HS.out.1.size;omega)).kept (k_alloc (Below.refl _ _) _),newestB _ _⟩
 have HI0:=Hd ((HI5.out.kept hb6).kept (k_alloc (Below.refl _ _) (.cells #[.int .i64 (gOf t).rows,.int .i64 (gOf t).cols,.slice ag (gOf t).cells.length cg] 34)))
 have HE0:=Hd ((HE5.out.kept hb6).kept (k_alloc (Below.refl _ _) (.cells #[.int .i64 (gOf t).rows,.int .i64 (gOf t).cols,.slice ag (gOf t).cells.length cg] 34)))
 clear hO6 hb6 hG6 HS HI5 HE5 z0 z1 z2 z3 z4 HGi HOk
 go_upto_region 9 with fail
 generalize w6.alloc (.cells #[.int .i64 (gOf t).rows,.int .i64 (gOf t).cols,.slice ag (gOf t).cells.length cg] 34)=W6 at HGr0 HI0 HE0 ⊢
 generalize w6.heap.size=gb at HGr0 ⊢
 have KG0:Hid (∀ W,SGr w tb gb ac ar cc cr t ag cg W→∀ r c:Int,I64 r→I64 c→Calls Tryz.prog 13 #[.agg #[.int .i64 (gOf t).rows,.int .i64 (gOf t).cols,.slice ag (gOf t).cells.length cg],.int .i64 r,.int .i64 c] W fun e w'=>e=.returned (.int .i64 (findTo (holdsB r c) (gOf t).cells))∧Below W.heap.size W w'):=fun W hW r c h1 h2=>implGrdAt _ _ ag cg (gOf t).cells r c h1 h2 W hW.2.1
 go_wp2_with fail
 go_loopw [10] (fun s W=>∃ r:Nat,s=.int .i64 r∧r≤RL.length∧Hid (Below W6.heap.size W6 W)) (fun s _=>RL.length - (intOf s).toNat)
 case atStart=>exact ⟨0,rfl,Nat.zero_le _,Below.refl _ _⟩
 case round =>
  obtain ⟨r,rfl,hr,HB⟩:=hrel
  by_cases hrl:r < RL.length
  case neg=>as_aux_lemma =>
   obtain rfl:r=RL.length:=by omega
   have hnot:¬ ((RL.length:Int) < (RL.length:Int)):=by omega
   have HGr:=Hd (HGr0.out.kept HB.out)
   have HEr:=Hd (HE0.out.kept HB.out)
   clear HI0 HE0 KHs KG0
   go_upto_region 20 with fail
   have htb:=(bL HGr.out.1.2.2)
   have m0:=bw_cell (a:=⟨tb,0,none⟩) htb (cellB (p:=0) HGr.out.1.2.2)
   have m1:=bw_cell (a:=⟨tb,1,none⟩) htb (cellB (p:=1) HGr.out.1.2.2)
   have m2:=bw_cell (a:=⟨tb,2,none⟩) htb (cellB (p:=2) HGr.out.1.2.2)
   have m3:=bw_cell (a:=⟨tb,3,none⟩) htb (cellB (p:=3) HGr.out.1.2.2)
   have m4:=bw_cell (a:=⟨tb,4,none⟩) htb (cellB (p:=4) HGr.out.1.2.2)
   have hgb:=(bL HGr.out.2.2)
   have n0:=bw_cell (a:=⟨gb,0,none⟩) hgb (cellB (p:=0) HGr.out.2.2)
   have n1:=bw_cell (a:=⟨gb,1,none⟩) hgb (cellB (p:=1) HGr.out.2.2)
   have n2:=bw_cell (a:=⟨gb,2,none⟩) hgb (cellB (p:=2) HGr.out.2.2)
   have hne:=bw_some wr
   have KT1:=Hd (fun (p:BW wr)=>bw_of (HTi.out p.u (HGr.out.kept p.h).1.2.1))
   have KH1':=Hd (fun (p:BW wr)=>bw_of (KH1.out p.u (HGr.out.kept p.h).1.2.1))
   have KH2':=Hd (fun (p:BW wr)=>bw_of (KH2.out p.u (HGr.out.kept p.h).1.2.1))
   have KS:=Hd (fun (p:BW wr)=>bw_of ((lawspwSum_any _ RL (by omega) hwR p.u (HEr.out.kept p.h)).mono (fun e w' ⟨h1,h2⟩=>⟨h1,h2 ▸ Below.refl _ _⟩)))
   have KP:=Hd (fun (p:BW wr)=>bw_of ((pwOk_any p.u).mono (fun e w' ⟨h1,h2⟩=>⟨h1,h2 ▸ Below.refl _ _⟩)))
   clear HTi KH1 KH2
   refine wp_region_quiet_below hmx (by kernel_rfl) ?_
   repeat (go_big_quiet_step (first | (go_at_call 8;refine KT1.out _) | (go_at_call_of 14 tv;refine KH1'.out _) | (go_at_call 14;refine KH2'.out _) | (go_at_call 17;refine KS.out _) | (go_at_call 18;refine KP.out _)))
   refine wpQuiet_nil ?_
   intro W9 hw'
   obtain ⟨⟨Wx,hW9⟩,hw''⟩:=hw'
   subst hw''
   have HB9:=Hd (HGr.out.kept hW9).1.1
   clear m0 m1 m2 m3 m4 n0 n1 n2 hne hW9 KT1 KH1' KH2' KS KP
   go_wp2
   go_ret
   exact ⟨rfl,HB9.out⟩
  have hrI:I64 (r:Int):=by unfold I64;omega
  have hrl':(r:Int) < (RL.length:Int):=by omega
  go_wp2_with fail
  have HBr:=HB
  go_loopw [11] (fun s W=>∃ c:Nat,s=.int .i64 c∧c≤CL.length∧Hid (Below W6.heap.size W6 W)) (fun s _=>CL.length - (intOf s).toNat)
  case atStart=>exact ⟨0,rfl,Nat.zero_le _,HBr⟩
  case round=>as_aux_lemma =>
   clear HB HBr
   obtain ⟨c,rfl,hc,HB⟩:=hrel
   by_cases hcl:c < CL.length
   case neg =>
    obtain rfl:c=CL.length:=by omega
    have hnot:¬ ((CL.length:Int) < (CL.length:Int)):=by omega
    go_wp2
    go_roundw
    case rel=>exact ⟨r+1,by go_num,by omega,HB⟩
    case measure=>simp [intOf];omega
   have hcI:I64 (c:Int):=by unfold I64;omega
   have hcl':(c:Int) < (CL.length:Int):=by omega
   have HGr:=Hd (HGr0.out.kept HB.out)
   have htb:=(bL HGr.out.1.2.2)
   have m0:=bw_cell (a:=⟨tb,0,none⟩) htb (cellB (p:=0) HGr.out.1.2.2)
   have m1:=bw_cell (a:=⟨tb,1,none⟩) htb (cellB (p:=1) HGr.out.1.2.2)
   have m2:=bw_cell (a:=⟨tb,2,none⟩) htb (cellB (p:=2) HGr.out.1.2.2)
   have m3:=bw_cell (a:=⟨tb,3,none⟩) htb (cellB (p:=3) HGr.out.1.2.2)
   have m4:=bw_cell (a:=⟨tb,4,none⟩) htb (cellB (p:=4) HGr.out.1.2.2)
   have hgb:=(bL HGr.out.2.2)
   have n0:=bw_cell (a:=⟨gb,0,none⟩) hgb (cellB (p:=0) HGr.out.2.2)
   have n1:=bw_cell (a:=⟨gb,1,none⟩) hgb (cellB (p:=1) HGr.out.2.2)
   have n2:=bw_cell (a:=⟨gb,2,none⟩) hgb (cellB (p:=2) HGr.out.2.2)
   have hne:=bw_some wr
   have HIr:=Hd (HI0.out.kept HB.out)
   have HEr:=Hd (HE0.out.kept HB.out)
   obtain ⟨b1,o1,c1',e1,hc11,hc12,hb1,hx1⟩:=HIr.out.get hcl
   obtain ⟨b2,o2,c2',e2,hc21,hc22,hb2,hx2⟩:=HEr.out.get hrl
   simp only [Value.slice.injEq,true_and] at e1 e2
   obtain ⟨rfl,rfl⟩:=e1
   obtain ⟨rfl,rfl⟩:=e2
   have m5:=bw_cell hb1 hx1
   have m6:=bw_cell hb2 hx2
   unfold maxLen at hc12 hc22
   have KH0:=Hd (KHs.out r c hrl hcl)
   have KG1:=Hd (fun W hW=>KG0.out W hW (r:Int) (c:Int) hrI hcI)
   have Kn:=Hd (fun (h:findTo (holdsB (r:Int) (c:Int)) (gOf t).cells < 0)=>find_neg h)
   have KW0:=Hd (fun W (hW:IntsAt W (.slice (some ⟨b1,o1,none⟩) CL.length c4) CL)=>implWidAt _ CL t.gap (c:Int) W hW)
   have KR0:=Hd (fun W (hW:IntsAt W (.slice (some ⟨b2,o2,none⟩) RL.length c5) RL)=>implHgtAt _ RL (r:Int) W hW)
   generalize findTo (holdsB (r:Int) (c:Int)) (gOf t).cells=k at KH0 KG1 Kn
   generalize atV CL t.gap (c:Int)=px at KH0 KW0
   generalize atV RL 0 (r:Int)=py at KH0 KR0
   generalize hxcE:CL.getD c 0=xc at hx1 m5 KH0
   generalize hxrE:RL.getD r 0=xr at hx2 m6 KH0
   have Hxc:=Hd hxcE
   have Hxr:=Hd hxrE
   clear hxcE hxrE
   clear KHs KG0 hx1 hx2 KH1 KH2 HTi
   have KG:=Hd (fun (p:BW wr)=>bw_of (KG1.out p.u (HGr.out.kept p.h)))
   have KW:=Hd (fun (p:BW wr)=>bw_of ((KW0.out p.u (HIr.out.kept p.h)).mono (fun e w' ⟨h1,h2⟩=>⟨h1,h2 ▸ Below.refl _ _⟩)))
   have KR:=Hd (fun (p:BW wr)=>bw_of ((KR0.out p.u (HEr.out.kept p.h)).mono (fun e w' ⟨h1,h2⟩=>⟨h1,h2 ▸ Below.refl _ _⟩)))
   go_upto_region 15 with fail
   by_cases hk:k < 0
   case pos=>as_aux_lemma =>
    by_cases hxc:0 < xc
    case neg=>as_aux_lemma =>
     have hk0:¬ (0:Int)≤k:=by omega
     refine wp_region_quiet_below hmx (by kernel_rfl) ?_
     repeat (go_big_quiet_step (first | (go_at_call 13;refine KG.out _)))
     refine wpQuiet_nil ?_
     intro W9 hw'
     obtain ⟨⟨Wx,hW9⟩,hw''⟩:=hw'
     subst hw''
     have HB9:=Hd (k_trans HB.out hW9)
     clear m0 m1 m2 m3 m4 m5 m6 n0 n1 n2 hne KG KW KR HGr HIr HEr hW9 HB htb hgb hb1 hb2
     have HGr:=Hd (HGr0.out.kept HB9.out)
     have HIr:=Hd (HI0.out.kept HB9.out)
     have HEr:=Hd (HE0.out.kept HB9.out)
     have KG9:=Hd (KG1.out _ HGr.out)
     obtain ⟨p0,p1,p2⟩:=HGr.out.at
     go_wp2_with fail
     refine KG9.out.mono ?_
     rintro e w12 ⟨rfl,hb12⟩
     replace HB:=Hd (k_trans HB9.out hb12)
     replace HGr:=Hd (HGr.out.kept hb12)
     replace HIr:=Hd (HIr.out.kept hb12)
     replace HEr:=Hd (HEr.out.kept hb12)
     clear hb12 HB9 p0 p1 p2 KG9 KG1
     go_upto_region 18 with fail
     have htb:=(bL HGr.out.1.2.2)
     have m0:=bw_cell (a:=⟨tb,0,none⟩) htb (cellB (p:=0) HGr.out.1.2.2)
     have m1:=bw_cell (a:=⟨tb,1,none⟩) htb (cellB (p:=1) HGr.out.1.2.2)
     have m2:=bw_cell (a:=⟨tb,2,none⟩) htb (cellB (p:=2) HGr.out.1.2.2)
     have m3:=bw_cell (a:=⟨tb,3,none⟩) htb (cellB (p:=3) HGr.out.1.2.2)
     have m4:=bw_cell (a:=⟨tb,4,none⟩) htb (cellB (p:=4) HGr.out.1.2.2)
     have hgb:=(bL HGr.out.2.2)
     have n0:=bw_cell (a:=⟨gb,0,none⟩) hgb (cellB (p:=0) HGr.out.2.2)
     have n1:=bw_cell (a:=⟨gb,1,none⟩) hgb (cellB (p:=1) HGr.out.2.2)
     have n2:=bw_cell (a:=⟨gb,2,none⟩) hgb (cellB (p:=2) HGr.out.2.2)
     obtain ⟨b1',o1',c1',e1,hc11',hc12',hb1,hx1⟩:=HIr.out.get hcl
     obtain ⟨b2',o2',c2',e2,hc21',hc22',hb2,hx2⟩:=HEr.out.get hrl
     simp only [Value.slice.injEq,Option.some.injEq,Addr.mk.injEq,and_true,true_and] at e1 e2
     obtain ⟨⟨rfl,rfl⟩,rfl⟩:=e1
     obtain ⟨⟨rfl,rfl⟩,rfl⟩:=e2
     rw [Hxc.out] at hx1
     rw [Hxr.out] at hx2
     have m5:=bw_cell hb1 hx1
     have m6:=bw_cell hb2 hx2
     have hne:=bw_some w12
     have hk1:¬ (0:Int)≤k:=by omega
     have hxc1:¬ 0 < xc:=by omega
     refine wp_region_quiet_below hmx (by kernel_rfl) ?_
     repeat (go_big_quiet_step (first | fail))
     refine wpQuiet_nil ?_
     intro W14 hw'
     obtain ⟨⟨Wx,hW14⟩,hw''⟩:=hw'
     subst hw''
     have HB14:=Hd (k_trans HB.out hW14)
     clear m0 m1 m2 m3 m4 m5 m6 n0 n1 n2 hne HGr HIr HEr hW14 HB
     go_wp2
     go_roundw
     case rel=>exact ⟨c+1,by go_num,by omega,HB14⟩
     case measure=>simp [intOf];omega
    by_cases hxr:0 < xr
    case neg=>as_aux_lemma =>
     have hk0:¬ (0:Int)≤k:=by omega
     refine wp_region_quiet_below hmx (by kernel_rfl) ?_
     repeat (go_big_quiet_step (first | (go_at_call 13;refine KG.out _)))
     refine wpQuiet_nil ?_
     intro W9 hw'
     obtain ⟨⟨Wx,hW9⟩,hw''⟩:=hw'
     subst hw''
     have HB9:=Hd (k_trans HB.out hW9)
     clear m0 m1 m2 m3 m4 m5 m6 n0 n1 n2 hne KG KW KR HGr HIr HEr hW9 HB htb hgb hb1 hb2
     have HGr:=Hd (HGr0.out.kept HB9.out)
     have HIr:=Hd (HI0.out.kept HB9.out)
     have HEr:=Hd (HE0.out.kept HB9.out)
     have KG9:=Hd (KG1.out _ HGr.out)
     obtain ⟨p0,p1,p2⟩:=HGr.out.at
     go_wp2_with fail
     refine KG9.out.mono ?_
     rintro e w12 ⟨rfl,hb12⟩
     replace HB:=Hd (k_trans HB9.out hb12)
     replace HGr:=Hd (HGr.out.kept hb12)
     replace HIr:=Hd (HIr.out.kept hb12)
     replace HEr:=Hd (HEr.out.kept hb12)
     clear hb12 HB9 p0 p1 p2 KG9 KG1
     go_upto_region 18 with fail
     have htb:=(bL HGr.out.1.2.2)
     have m0:=bw_cell (a:=⟨tb,0,none⟩) htb (cellB (p:=0) HGr.out.1.2.2)
     have m1:=bw_cell (a:=⟨tb,1,none⟩) htb (cellB (p:=1) HGr.out.1.2.2)
     have m2:=bw_cell (a:=⟨tb,2,none⟩) htb (cellB (p:=2) HGr.out.1.2.2)
     have m3:=bw_cell (a:=⟨tb,3,none⟩) htb (cellB (p:=3) HGr.out.1.2.2)
     have m4:=bw_cell (a:=⟨tb,4,none⟩) htb (cellB (p:=4) HGr.out.1.2.2)
     have hgb:=(bL HGr.out.2.2)
     have n0:=bw_cell (a:=⟨gb,0,none⟩) hgb (cellB (p:=0) HGr.out.2.2)
     have n1:=bw_cell (a:=⟨gb,1,none⟩) hgb (cellB (p:=1) HGr.out.2.2)
     have n2:=bw_cell (a:=⟨gb,2,none⟩) hgb (cellB (p:=2) HGr.out.2.2)
     obtain ⟨b1',o1',c1',e1,hc11',hc12',hb1,hx1⟩:=HIr.out.get hcl
     obtain ⟨b2',o2',c2',e2,hc21',hc22',hb2,hx2⟩:=HEr.out.get hrl
     simp only [Value.slice.injEq,Option.some.injEq,Addr.mk.injEq,and_true,true_and] at e1 e2
     obtain ⟨⟨rfl,rfl⟩,rfl⟩:=e1
     obtain ⟨⟨rfl,rfl⟩,rfl⟩:=e2
     rw [Hxc.out] at hx1
     rw [Hxr.out] at hx2
     have m5:=bw_cell hb1 hx1
     have m6:=bw_cell hb2 hx2
     have hne:=bw_some w12
     have hk1:¬ (0:Int)≤k:=by omega
     have hxr1:¬ 0 < xr:=by omega
     refine wp_region_quiet_below hmx (by kernel_rfl) ?_
     repeat (go_big_quiet_step (first | fail))
     refine wpQuiet_nil ?_
     intro W14 hw'
     obtain ⟨⟨Wx,hW14⟩,hw''⟩:=hw'
     subst hw''
     have HB14:=Hd (k_trans HB.out hW14)
     clear m0 m1 m2 m3 m4 m5 m6 n0 n1 n2 hne HGr HIr HEr hW14 HB
     go_wp2
     go_roundw
     case rel=>exact ⟨c+1,by go_num,by omega,HB14⟩
     case measure=>simp [intOf];omega
    obtain rfl:k=-1:=Kn.out hk
    have hk0:¬ (0:Int)≤-1:=by omega
    have KH:=Hd (fun (p:BW wr)=>bw_of (KH0.out hxc hxr p.u (HGr.out.kept p.h).1.2.1))
    refine wp_region_quiet_below hmx (by kernel_rfl) ?_
    repeat (go_big_quiet_step (first | (go_at_call 13;refine KG.out _) | (go_at_call 15;refine KW.out _) | (go_at_call 16;refine KR.out _) | (go_at_call 14;refine KH.out _)))
    refine wpQuiet_nil ?_
    intro W9 hw'
    obtain ⟨⟨Wx,hW9⟩,hw''⟩:=hw'
    subst hw''
    have HB9:=Hd (k_trans HB.out hW9)
    clear m0 m1 m2 m3 m4 m5 m6 n0 n1 n2 hne KG KW KR KH HGr HIr HEr hW9 HB htb hgb hb1 hb2
    have HGr:=Hd (HGr0.out.kept HB9.out)
    have HIr:=Hd (HI0.out.kept HB9.out)
    have HEr:=Hd (HE0.out.kept HB9.out)
    have KG9:=Hd (KG1.out _ HGr.out)
    obtain ⟨p0,p1,p2⟩:=HGr.out.at
    go_wp2_with fail
    refine KG9.out.mono ?_
    rintro e w12 ⟨rfl,hb12⟩
    replace HB:=Hd (k_trans HB9.out hb12)
    replace HGr:=Hd (HGr.out.kept hb12)
    replace HIr:=Hd (HIr.out.kept hb12)
    replace HEr:=Hd (HEr.out.kept hb12)
    clear hb12 HB9 p0 p1 p2 KG9 KG1
    go_upto_region 18 with fail
    have hne:=bw_some w12
    refine wp_region_quiet_below hmx (by kernel_rfl) ?_
    repeat (go_big_quiet_step (first | fail))
    refine wpQuiet_nil ?_
    intro W14 hw'
    obtain ⟨⟨Wx,hW14⟩,hw''⟩:=hw'
    subst hw''
    have HB14:=Hd (k_trans HB.out hW14)
    clear hne HGr HIr HEr hW14 HB
    go_wp2
    go_roundw
    case rel=>exact ⟨c+1,by go_num,by omega,HB14⟩
    case measure=>simp [intOf];omega
   by_cases hxc:0 < xc
   case neg=>as_aux_lemma =>
    have hk0:(0:Int)≤k:=by omega
    have hkk:(k != k)=false:=by simp
    refine wp_region_quiet_below hmx (by kernel_rfl) ?_
    repeat (go_big_quiet_step (first | (go_at_call 13;refine KG.out _)))
    refine wpQuiet_nil ?_
    intro W9 hw'
    obtain ⟨⟨Wx,hW9⟩,hw''⟩:=hw'
    subst hw''
    have HB9:=Hd (k_trans HB.out hW9)
    clear m0 m1 m2 m3 m4 m5 m6 n0 n1 n2 hne KG KW KR HGr HIr HEr hW9 HB htb hgb hb1 hb2
    have HGr:=Hd (HGr0.out.kept HB9.out)
    have HIr:=Hd (HI0.out.kept HB9.out)
    have HEr:=Hd (HE0.out.kept HB9.out)
    have KG9:=Hd (KG1.out _ HGr.out)
    obtain ⟨p0,p1,p2⟩:=HGr.out.at
    go_wp2_with fail
    refine KG9.out.mono ?_
    rintro e w12 ⟨rfl,hb12⟩
    replace HB:=Hd (k_trans HB9.out hb12)
    replace HGr:=Hd (HGr.out.kept hb12)
    replace HIr:=Hd (HIr.out.kept hb12)
    replace HEr:=Hd (HEr.out.kept hb12)
    clear hb12 HB9 p0 p1 p2 KG9 KG1
    go_upto_region 18 with fail
    have htb:=(bL HGr.out.1.2.2)
    have m0:=bw_cell (a:=⟨tb,0,none⟩) htb (cellB (p:=0) HGr.out.1.2.2)
    have m1:=bw_cell (a:=⟨tb,1,none⟩) htb (cellB (p:=1) HGr.out.1.2.2)
    have m2:=bw_cell (a:=⟨tb,2,none⟩) htb (cellB (p:=2) HGr.out.1.2.2)
    have m3:=bw_cell (a:=⟨tb,3,none⟩) htb (cellB (p:=3) HGr.out.1.2.2)
    have m4:=bw_cell (a:=⟨tb,4,none⟩) htb (cellB (p:=4) HGr.out.1.2.2)
    have hgb:=(bL HGr.out.2.2)
    have n0:=bw_cell (a:=⟨gb,0,none⟩) hgb (cellB (p:=0) HGr.out.2.2)
    have n1:=bw_cell (a:=⟨gb,1,none⟩) hgb (cellB (p:=1) HGr.out.2.2)
    have n2:=bw_cell (a:=⟨gb,2,none⟩) hgb (cellB (p:=2) HGr.out.2.2)
    obtain ⟨b1',o1',c1',e1,hc11',hc12',hb1,hx1⟩:=HIr.out.get hcl
    obtain ⟨b2',o2',c2',e2,hc21',hc22',hb2,hx2⟩:=HEr.out.get hrl
    simp only [Value.slice.injEq,Option.some.injEq,Addr.mk.injEq,and_true,true_and] at e1 e2
    obtain ⟨⟨rfl,rfl⟩,rfl⟩:=e1
    obtain ⟨⟨rfl,rfl⟩,rfl⟩:=e2
    rw [Hxc.out] at hx1
    rw [Hxr.out] at hx2
    have m5:=bw_cell hb1 hx1
    have m6:=bw_cell hb2 hx2
    have hne:=bw_some w12
    have hxc1:¬ 0 < xc:=by omega
    refine wp_region_quiet_below hmx (by kernel_rfl) ?_
    repeat (go_big_quiet_step (first | fail))
    refine wpQuiet_nil ?_
    intro W14 hw'
    obtain ⟨⟨Wx,hW14⟩,hw''⟩:=hw'
    subst hw''
    have HB14:=Hd (k_trans HB.out hW14)
    clear m0 m1 m2 m3 m4 m5 m6 n0 n1 n2 hne HGr HIr HEr hW14 HB
    go_wp2
    go_roundw
    case rel=>exact ⟨c+1,by go_num,by omega,HB14⟩
    case measure=>simp [intOf];omega
   by_cases hxr:0 < xr
   case neg=>as_aux_lemma =>
    have hk0:(0:Int)≤k:=by omega
    have hkk:(k != k)=false:=by simp
    refine wp_region_quiet_below hmx (by kernel_rfl) ?_
    repeat (go_big_quiet_step (first | (go_at_call 13;refine KG.out _)))
    refine wpQuiet_nil ?_
    intro W9 hw'
    obtain ⟨⟨Wx,hW9⟩,hw''⟩:=hw'
    subst hw''
    have HB9:=Hd (k_trans HB.out hW9)
    clear m0 m1 m2 m3 m4 m5 m6 n0 n1 n2 hne KG KW KR HGr HIr HEr hW9 HB htb hgb hb1 hb2
    have HGr:=Hd (HGr0.out.kept HB9.out)
    have HIr:=Hd (HI0.out.kept HB9.out)
    have HEr:=Hd (HE0.out.kept HB9.out)
    have KG9:=Hd (KG1.out _ HGr.out)
    obtain ⟨p0,p1,p2⟩:=HGr.out.at
    go_wp2_with fail
    refine KG9.out.mono ?_
    rintro e w12 ⟨rfl,hb12⟩
    replace HB:=Hd (k_trans HB9.out hb12)
    replace HGr:=Hd (HGr.out.kept hb12)
    replace HIr:=Hd (HIr.out.kept hb12)
    replace HEr:=Hd (HEr.out.kept hb12)
    clear hb12 HB9 p0 p1 p2 KG9 KG1
    go_upto_region 18 with fail
    have htb:=(bL HGr.out.1.2.2)
    have m0:=bw_cell (a:=⟨tb,0,none⟩) htb (cellB (p:=0) HGr.out.1.2.2)
    have m1:=bw_cell (a:=⟨tb,1,none⟩) htb (cellB (p:=1) HGr.out.1.2.2)
    have m2:=bw_cell (a:=⟨tb,2,none⟩) htb (cellB (p:=2) HGr.out.1.2.2)
    have m3:=bw_cell (a:=⟨tb,3,none⟩) htb (cellB (p:=3) HGr.out.1.2.2)
    have m4:=bw_cell (a:=⟨tb,4,none⟩) htb (cellB (p:=4) HGr.out.1.2.2)
    have hgb:=(bL HGr.out.2.2)
    have n0:=bw_cell (a:=⟨gb,0,none⟩) hgb (cellB (p:=0) HGr.out.2.2)
    have n1:=bw_cell (a:=⟨gb,1,none⟩) hgb (cellB (p:=1) HGr.out.2.2)
    have n2:=bw_cell (a:=⟨gb,2,none⟩) hgb (cellB (p:=2) HGr.out.2.2)
    obtain ⟨b1',o1',c1',e1,hc11',hc12',hb1,hx1⟩:=HIr.out.get hcl
    obtain ⟨b2',o2',c2',e2,hc21',hc22',hb2,hx2⟩:=HEr.out.get hrl
    simp only [Value.slice.injEq,Option.some.injEq,Addr.mk.injEq,and_true,true_and] at e1 e2
    obtain ⟨⟨rfl,rfl⟩,rfl⟩:=e1
    obtain ⟨⟨rfl,rfl⟩,rfl⟩:=e2
    rw [Hxc.out] at hx1
    rw [Hxr.out] at hx2
    have m5:=bw_cell hb1 hx1
    have m6:=bw_cell hb2 hx2
    have hne:=bw_some w12
    have hxr1:¬ 0 < xr:=by omega
    refine wp_region_quiet_below hmx (by kernel_rfl) ?_
    repeat (go_big_quiet_step (first | fail))
    refine wpQuiet_nil ?_
    intro W14 hw'
    obtain ⟨⟨Wx,hW14⟩,hw''⟩:=hw'
    subst hw''
    have HB14:=Hd (k_trans HB.out hW14)
    clear m0 m1 m2 m3 m4 m5 m6 n0 n1 n2 hne HGr HIr HEr hW14 HB
    go_wp2
    go_roundw
    case rel=>exact ⟨c+1,by go_num,by omega,HB14⟩
    case measure=>simp [intOf];omega
   have hk0:(0:Int)≤k:=by omega
   have hkk:(k != k)=false:=by simp
   refine wp_region_quiet_below hmx (by kernel_rfl) ?_
   repeat (go_big_quiet_step (first | (go_at_call 13;refine KG.out _)))
   refine wpQuiet_nil ?_
   intro W9 hw'
   obtain ⟨⟨Wx,hW9⟩,hw''⟩:=hw'
   subst hw''
   have HB9:=Hd (k_trans HB.out hW9)
   clear m0 m1 m2 m3 m4 m5 m6 n0 n1 n2 hne KG KW KR HGr HIr HEr hW9 HB htb hgb hb1 hb2
   have HGr:=Hd (HGr0.out.kept HB9.out)
   have HIr:=Hd (HI0.out.kept HB9.out)
   have HEr:=Hd (HE0.out.kept HB9.out)
   have KG9:=Hd (KG1.out _ HGr.out)
   obtain ⟨p0,p1,p2⟩:=HGr.out.at
   go_wp2_with fail
   refine KG9.out.mono ?_
   rintro e w12 ⟨rfl,hb12⟩
   replace HB:=Hd (k_trans HB9.out hb12)
   replace HGr:=Hd (HGr.out.kept hb12)
   replace HIr:=Hd (HIr.out.kept hb12)
   replace HEr:=Hd (HEr.out.kept hb12)
   clear hb12 HB9 p0 p1 p2 KG9 KG1
   go_upto_region 18 with fail
   have htb:=(bL HGr.out.1.2.2)
   have m0:=bw_cell (a:=⟨tb,0,none⟩) htb (cellB (p:=0) HGr.out.1.2.2)
   have m1:=bw_cell (a:=⟨tb,1,none⟩) htb (cellB (p:=1) HGr.out.1.2.2)
   have m2:=bw_cell (a:=⟨tb,2,none⟩) htb (cellB (p:=2) HGr.out.1.2.2)
   have m3:=bw_cell (a:=⟨tb,3,none⟩) htb (cellB (p:=3) HGr.out.1.2.2)
   have m4:=bw_cell (a:=⟨tb,4,none⟩) htb (cellB (p:=4) HGr.out.1.2.2)
   have hgb:=(bL HGr.out.2.2)
   have n0:=bw_cell (a:=⟨gb,0,none⟩) hgb (cellB (p:=0) HGr.out.2.2)
   have n1:=bw_cell (a:=⟨gb,1,none⟩) hgb (cellB (p:=1) HGr.out.2.2)
   have n2:=bw_cell (a:=⟨gb,2,none⟩) hgb (cellB (p:=2) HGr.out.2.2)
   obtain ⟨b1',o1',c1',e1,hc11',hc12',hb1,hx1⟩:=HIr.out.get hcl
   obtain ⟨b2',o2',c2',e2,hc21',hc22',hb2,hx2⟩:=HEr.out.get hrl
   simp only [Value.slice.injEq,Option.some.injEq,Addr.mk.injEq,and_true,true_and] at e1 e2
   obtain ⟨⟨rfl,rfl⟩,rfl⟩:=e1
   obtain ⟨⟨rfl,rfl⟩,rfl⟩:=e2
   rw [Hxc.out] at hx1
   rw [Hxr.out] at hx2
   have m5:=bw_cell hb1 hx1
   have m6:=bw_cell hb2 hx2
   have hne:=bw_some w12
   have KH:=Hd (fun (p:BW w12)=>bw_of (KH0.out hxc hxr p.u (HGr.out.kept p.h).1.2.1))
   have KW:=Hd (fun (p:BW w12)=>bw_of ((KW0.out p.u (HIr.out.kept p.h)).mono (fun e w' ⟨h1,h2⟩=>⟨h1,h2 ▸ Below.refl _ _⟩)))
   have KR:=Hd (fun (p:BW w12)=>bw_of ((KR0.out p.u (HEr.out.kept p.h)).mono (fun e w' ⟨h1,h2⟩=>⟨h1,h2 ▸ Below.refl _ _⟩)))
   refine wp_region_quiet_below hmx (by kernel_rfl) ?_
   repeat (go_big_quiet_step (first | (go_at_call 15;refine KW.out _) | (go_at_call 16;refine KR.out _) | (go_at_call 14;refine KH.out _)))
   refine wpQuiet_nil ?_
   intro W14 hw'
   obtain ⟨⟨Wx,hW14⟩,hw''⟩:=hw'
   subst hw''
   have HB14:=Hd (k_trans HB.out hW14)
   clear m0 m1 m2 m3 m4 m5 m6 n0 n1 n2 KH KW KR hne HGr HIr HEr hW14 HB
   go_wp2
   go_roundw
   case rel=>exact ⟨c+1,by go_num,by omega,HB14⟩
   case measure=>simp [intOf];omega
theorem lawQryEmpty (a:Option Addr) (len cap:Nat) (w:World) (h:IsCode w a len cap) :
  Calls Tryz.prog 3 #[.slice a len cap] w fun e w'=>e=.returned (.bool true)∧Below w.heap.size w w':=by
 by_cases hl:len≤1048576
 ·exact lawQE_walk a len cap hl w h
 ·have hl':(1048576:Int) < (len:Int):=by omega
  clear h
  go_enter Tryz.func3,Tryz.ntmps3
  go_wp2
  go_ret
  exact ⟨rfl,Below.refl _ _⟩
end Go.Proofs.YtojogjlblgcioanGreat
