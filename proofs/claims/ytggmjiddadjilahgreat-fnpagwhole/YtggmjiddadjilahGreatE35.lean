/-
  PROVED HERE: the law FnPagWhole returns true at every code that lies in memory.
-/
import Derived.Test.YtggmjiddadjilahGreatE34
import Derived.Test.YtggmjiddadjilahGreatE26
set_option maxRecDepth 1000000
set_option maxHeartbeats 40000000
namespace Go.Proofs.YtggmjiddadjilahGreat
open Go.RowKit Go.BigFrame
structure SW (w:World) (tb gb:Nat) (ac ar:Option Addr) (cc cr:Nat) (t:T) (ag:Option Addr) (cg:Nat) (vp:Value) (pss:List (List PgS)) (W:World):Prop where
 sg:SGr w tb gb ac ar cc cr t ag cg W
 ps:z1C W w.heap.size vp pss
theorem SW.kept {w W W':World} {tb gb:Nat} {ac ar:Option Addr} {cc cr:Nat} {t:T} {ag:Option Addr} {cg:Nat} {vp:Value} {pss:List (List PgS)} (h:SW w tb gb ac ar cc cr t ag cg vp pss W) (k:Below W.heap.size W W'):SW w tb gb ac ar cc cr t ag cg vp pss W':=⟨h.sg.kept k,h.ps.kept k⟩
structure PwJ (w:World) (tb gb sb:Nat) (ac ar ah:Option Addr) (cc cr ch:Nat) (t:T) (x:Int) (rs:List Int) (n:Nat) (sf st y:Int) (W3:World) (L:Nat→Bool) (W:World) (v58 v59 v60 v61 v62 v63 v64 v65 v66 v67 v68 v69 v70 v71 v72 v11:Value):Prop where
 f0:L 0=true→v58=.pointer (some ⟨sb,1,none⟩)
 f1:L 1=true→v59=.int .i64 sf
 f2:L 2=true→v60=.bool false
 f3:L 3=true→v61=.bool false
 f4:L 4=true→v62=.pointer (some ⟨sb,2,none⟩)
 f5:L 5=true→v63=.int .i64 st
 f6:L 6=true→v64=.agg #[.slice ac t.cols.length cc,.int .i64 t.head,.int .i64 t.foot,.slice ar t.rows.length cr,.int .i64 t.gap]
 f7:L 7=true→v65=.int .i64 x
 f8:L 8=true→∃ z,zA W v66 rs∧z=0
 f9:L 9=true→v67=.pointer (some ⟨sb,0,none⟩)
 f10:L 10=true→v68=.int .i64 (n:Int)
 f11:L 11=true→∃ b o,v69=.pointer (some ⟨b,o,none⟩)∧W.cell? ⟨b,o,none⟩=some (.int .i64 y)∧b < W.heap.size
 f12:L 12=true→v70=.int .i64 y
 f13:L 13=true→v71=.bool (decide (st < y))
 f14:L 14=true→v72=.bool (decide (st < y))
 f15:L 15=true→v11=.bool (decide (st < y))
 b:Below W3.heap.size W3 W
theorem ze6 (A:Option Addr) (len cap:Nat) (hlen:len≤1048576) (w:World) (h:z3D w A len cap) :
  Calls Tryz.prog 4 #[.slice A len cap] w fun e w'=>e=.returned (.bool true)∧Below w.heap.size w w':=by
 have hl:¬ (1048576:Int) < (len:Int):=(by omega);have hmx:Tryz.prog.follows .mixedOrders=true:=(by kernel_rfl);have HD:=Hd h;clear h;go_enter Tryz.func4,Tryz.ntmps4;go_wp2_with fail
 refine (zar _ _ _ _ HD.out).mono ?_;rintro e w1 ⟨ac,ar,cc,cr,t,x,vh,high,rfl,hD,hxb,hsm,hC1,hW1,hH1,hb1⟩;obtain ⟨ah,ch,rfl,_⟩:=At.form hH1;have KA1:=ze (Below.refl w1.heap.size w1) (.cells #[.slice ac t.cols.length cc,.int .i64 t.head,.int .i64 t.foot,.slice ar t.rows.length cr,.int .i64 t.gap] 26);have HS:Hid (SP w w1.heap.size ac ar cc cr t (.slice ah high.length ch) high (w1.alloc (.cells #[.slice ac t.cols.length cc,.int .i64 t.head,.int .i64 t.foot,.slice ar t.rows.length cr,.int .i64 t.gap] 26))):=⟨⟨hb1.alloc hb1.size _,TA.kept ⟨hC1,hW1⟩ KA1,zj _ _⟩,hH1.ints.kept KA1⟩;have HPi:=Hd (fun W (h:SP w w1.heap.size ac ar cc cr t (.slice ah high.length ch) high W)=>zdU ac ar cc cr t hD x (.slice ah high.length ch) high W h.st.2.1.1 h.st.2.1.2 h.hi);have HPs:=Hd (fun W (h:SP w w1.heap.size ac ar cc cr t (.slice ah high.length ch) high W)=>ze3 ac ar cc cr t hD x (.slice ah high.length ch) high W h.st.2.1.1 h.st.2.1.2 h.hi);have HGi:=Hd (fun W (h:TA W w.heap.size ac ar cc cr t)=>z5D ac ar cc cr t hD W h.1 h.2);have HRi:=Hd (fun W (h:TA W w.heap.size ac ar cc cr t)=>z97 ac ar cc cr t hD x W h.1 h.2);have HGk:=Hd (z65 hD)
 have HWh:Hid (∀ i,i < (z2f t x high).length→∀ s ∈ (z2f t x high).getD i [],∃ n,WhF t (z0y t x) (z2f t x high) i n s):=fun i hi s hs=>by
  by_cases hp:z4f t x high=true
  ·exact zdX hD hp hi hs
  ·rw [zh4 (by simpa using hp)] at hi;exact absurd hi (Nat.not_lt_zero i)
 generalize z2f t x high=pss at HPi HPs HWh;generalize z0y t x=rs at HRi HWh;clear hC1 hW1 hH1 hb1 hD HD hxb hsm KA1;go_upto_region 4 with fail
 generalize w1.alloc (.cells #[.slice ac t.cols.length cc,.int .i64 t.head,.int .i64 t.foot,.slice ar t.rows.length cr,.int .i64 t.gap] 26)=W1 at HS ⊢;generalize w1.heap.size=tb at HS HPi HPs ⊢;obtain ⟨z0,z1,z2,z3,z4⟩:=HS.out.st.at;go_wp2_with fail
 refine (HPi.out _ HS.out).mono ?_;rintro e W3 ⟨v3,us,rfl,hO3,hR3,hb3⟩;have hP3:=hR3.pss hO3 (z:=w.heap.size) HS.out.st.1.size HS.out.st.1.size;obtain ⟨ap,cp,rfl,hlp⟩:=At.form hP3;unfold maxLen at hlp;have HPV:=Hd hP3;replace HS:=Hd (HS.out.kept hb3);clear hO3 hR3 hP3 hb3 z0 z1 z2 z3 z4 HPi;obtain ⟨z0,z1,z2,z3,z4⟩:=HS.out.st.at;go_wp2_with fail
 refine (HPs.out _ HS.out).mono ?_;rintro e W4 ⟨v4,us4,rfl,hO4,hR4,hb4⟩;have HP4:=Hd (hR4.pss hO4 (Nat.le_refl _) (Nat.le_refl _));replace HS:=Hd (HS.out.kept hb4);replace HPV:=Hd (HPV.out.kept hb4);clear hO4 hR4 hb4 z0 z1 z2 z3 z4 HPs;obtain ⟨ap4,cp4,rfl,_⟩:=At.form HP4.out;go_wp2_with fail
 refine (ze4 _ _ pss W4 HPV.out HP4.out).mono ?_;rintro e W5 ⟨rfl,hb5⟩;replace HS:=Hd (HS.out.kept hb5);replace HPV:=Hd (HPV.out.kept hb5);clear HP4 hb5;obtain ⟨z0,z1,z2,z3,z4⟩:=HS.out.st.at;go_wp2_with fail
 refine (HGi.out _ HS.out.st.2.1).mono ?_;rintro e W6 ⟨vg,rfl,hG6,hb6⟩;obtain ⟨ag,cg,rfl⟩:=z4G hG6;have hGs:=hG6.at HGk.out;have hKg:=ze (Below.refl W6.heap.size W6) (.cells #[.int .i64 (gOf t).rows,.int .i64 (gOf t).cols,.slice ag (gOf t).cells.length cg] 38);have HSw:Hid (SW w tb W6.heap.size ac ar cc cr t ag cg (.slice ap pss.length cp) pss (W6.alloc (.cells #[.int .i64 (gOf t).rows,.int .i64 (gOf t).cols,.slice ag (gOf t).cells.length cg] 38))):=⟨⟨(HS.out.kept hb6).st.kept hKg,(hGs.base HS.out.st.1.size).kept hKg,zj _ _⟩,(HPV.out.kept hb6).kept hKg⟩;clear hG6 hGs hb6 hKg z0 z1 z2 z3 z4 HS HPV HGi HGk;go_upto_region 8 with fail
 generalize W6.alloc (.cells #[.int .i64 (gOf t).rows,.int .i64 (gOf t).cols,.slice ag (gOf t).cells.length cg] 38)=W7 at HSw ⊢;generalize W6.heap.size=gb at HSw ⊢;go_wp2_with fail
 go_loopw [8] (fun i W=>∃ q:Nat,i=.int .i64 (q:Int)∧q≤pss.length∧Hid (Below W7.heap.size W7 W)) (fun i _=>pss.length - (intOf i).toNat)
 case atStart=>exact ⟨0,rfl,Nat.zero_le _,Below.refl _ _⟩
 case round =>
  obtain ⟨q,rfl,hq,HB⟩:=hrel;by_cases hlt:q < pss.length
  case neg =>
   obtain rfl:q=pss.length:=by omega
   have HK:=Hd (HSw.out.kept HB.out).sg.1.1;go_wp2_with fail
   refine (zir _).mono ?_;rintro e wa ⟨rfl,rfl⟩;go_wp2;go_ret;exact ⟨rfl,HK.out⟩
  case pos=>as_aux_lemma =>
   replace HSw:=Hd (HSw.out.kept HB.out);obtain ⟨b1,off1,cap1',u1,e1,hc11,hc12,hbl1,x0,hs1⟩:=HSw.out.ps.get hlt;simp only [Value.slice.injEq,true_and] at e1;obtain ⟨rfl,rfl⟩:=e1;unfold maxLen at hc12;have HWq:=Hd (HWh.out q hlt);generalize hpg:pss.getD q []=pg at hs1 HWq;obtain ⟨au,cu,rfl,hlu⟩:=At.form hs1;unfold maxLen at hlu;have HS1:=Hd hs1;have X0:=Hd x0;obtain ⟨W8,hW8⟩:∃ W8,W8=wr:=⟨_,rfl⟩;subst hW8;clear hs1 x0 HWh hpg;go_wp2_with fail
   go_loopw [9] (fun i W=>∃ k:Nat,i=.int .i64 (k:Int)∧k≤pg.length∧Hid (Below W8.heap.size W8 W)) (fun i _=>pg.length - (intOf i).toNat)
   case atStart=>exact ⟨0,rfl,Nat.zero_le _,Below.refl _ _⟩
   case round =>
    obtain ⟨k,rfl,hk,HBq⟩:=hrel;have c1:=(HBq.out.cell (p:=⟨b1,off1+q,none⟩) hbl1).trans X0.out;by_cases hkl:k < pg.length
    case neg =>
     obtain rfl:k=pg.length:=by omega
     have HB8:=Hd (zh HB.out HBq.out);go_wp2;go_roundw
     case rel=>exact ⟨q+1,by go_num,by omega,HB8⟩
     case measure=>simp [intOf];omega
    case pos=>as_aux_lemma =>
     obtain ⟨d1,o1,cd1,f1,hd11,hd12,hdl1,p0,p1,p2⟩:=At.get (HS1.out.kept HBq.out) hkl;simp only [Value.slice.injEq,true_and] at f1;obtain ⟨rfl,rfl⟩:=f1;unfold maxLen at hd12
     obtain ⟨n,hF⟩:=HWq.out (pg.getD k dP) (by
      have e:pg.getD k dP=pg[k]:=(by simp [List.getD,hkl]);rw [e];exact List.getElem_mem hkl)
     generalize pg.getD k dP=s at p0 p1 p2 hF;obtain ⟨sr,sf,st⟩:=s;have hsr:=hF.r;simp only at p0 p1 p2 hsr;subst hsr;have HF:=Hd hF
     have hn8:n < t.rows.length∧t.rows.length≤8∧n < rs.length∧rs.length≤8:=by
      have h1:=hF.lt;have h2:=hF.r8;have h3:=hF.hl;omega
     have HSq:=Hd (HSw.out.kept HBq.out);clear hF HWq;go_upto_region 15 with fail
     have KA:=ze (Below.refl wr.heap.size wr) (.cells #[.int .i64 (n:Int),.int .i64 sf,.int .i64 st] 45);have hXs:=zj wr (.cells #[.int .i64 (n:Int),.int .i64 sf,.int .i64 st] 45);have HS:=Hd (HSq.out.kept KA);have HBz:=Hd (zh HBq.out KA);generalize wr.alloc (.cells #[.int .i64 (n:Int),.int .i64 sf,.int .i64 st] 45)=Wz at hXs HS HBz ⊢;generalize wr.heap.size=sb at hXs ⊢;clear p0 p1 p2 c1 KA HBq HSq HSw;have hsl:=(bL hXs);have HXs:=Hd hXs;obtain ⟨s0,s1,s2⟩:=z22 hXs;have S0:=Hd s0;have S1:=Hd s1;have S2:=Hd s2;have hlt0:tb < Wz.heap.size:=(bL HS.out.sg.1.2.2);have KR:=Hd (fun W (h:Below Wz.heap.size Wz W)=>HRi.out W (HS.out.kept h).sg.1.2.1);clear hXs s0 s1 s2;go_cut [11] (fun c W=>c=.bool (decide (0 < sf∨st < rs.getD n 0))∧Hid (Below Wz.heap.size Wz W))
     case first=>as_aux_lemma =>
      by_cases hsf:0 < sf
      ·have hne:=z0v Wz;have m1:=zi (a:=⟨sb,1,none⟩) hsl S1.out;refine zn hmx (by kernel_rfl) ?_;repeat (go_big_quiet_step (fail))
       refine wpQuiet_nil ?_;intro W9 hw';obtain ⟨⟨Wy,hW9⟩,hw''⟩:=hw';subst hw'';have HB9:=Hd hW9;clear hne m1 hW9;go_wp2_with fail
       go_meet
       case rel=>exact ⟨by simp [hsf],HB9⟩
      ·have hbn:=hn8;obtain ⟨y,hy⟩:∃ y,rs.getD n 0=y:=⟨_,rfl⟩;have HY:=Hd hy;clear hy HF;go_upto_region 15 with fail
       refine z0p (fun L act W=>∃ v58 v59 v60 v61 v62 v63 v64 v65 v66 v67 v68 v69 v70 v71 v72 v11:Value,act=⟨#[.slice A len cap,undef,u2,.pointer (some ⟨tb,0,none⟩),.int .i64 x,.slice ah high.length ch,.slice (some ⟨b1,off1,none⟩) pss.length cp,.pointer (some ⟨gb,0,none⟩),.int .i64 (q:Int),.int .i64 (k:Int),.pointer (some ⟨sb,0,none⟩),v11,u12,u13,.slice A len cap,.int .i64 len,.bool false,.tuple #[.agg #[.slice ac t.cols.length cc,.int .i64 t.head,.int .i64 t.foot,.slice ar t.rows.length cr,.int .i64 t.gap],.int .i64 x,.slice ah high.length ch],.slice A len cap,.tuple #[.agg #[.slice ac t.cols.length cc,.int .i64 t.head,.int .i64 t.foot,.slice ar t.rows.length cr,.int .i64 t.gap],.int .i64 x,.slice ah high.length ch],.agg #[.slice ac t.cols.length cc,.int .i64 t.head,.int .i64 t.foot,.slice ar t.rows.length cr,.int .i64 t.gap],.int .i64 x,.slice ah high.length ch,.agg #[.slice ac t.cols.length cc,.int .i64 t.head,.int .i64 t.foot,.slice ar t.rows.length cr,.int .i64 t.gap],.int .i64 x,.slice ah high.length ch,.slice (some ⟨b1,off1,none⟩) pss.length cp,.slice (some ⟨b1,off1,none⟩) pss.length cp,.agg #[.slice ac t.cols.length cc,.int .i64 t.head,.int .i64 t.foot,.slice ar t.rows.length cr,.int .i64 t.gap],.int .i64 x,.slice ah high.length ch,.slice ap4 pss.length cp4,.bool true,.bool false,.agg #[.slice ac t.cols.length cc,.int .i64 t.head,.int .i64 t.foot,.slice ar t.rows.length cr,.int .i64 t.gap],.agg #[.int .i64 (gOf t).rows,.int .i64 (gOf t).cols,.slice ag (gOf t).cells.length cg],.int .i64 (q:Int),.slice (some ⟨b1,off1,none⟩) pss.length cp,.int .i64 (pss.length:Int),.bool true,u40,u41,.int .i64 (k:Int),.slice (some ⟨b1,off1,none⟩) pss.length cp,.int .i64 (q:Int),.pointer (some ⟨b1,off1+q,none⟩),.slice (some ⟨d1,o1,none⟩) pg.length cu,.int .i64 (pg.length:Int),.bool true,u49,u50,.slice (some ⟨b1,off1,none⟩) pss.length cp,.int .i64 (q:Int),.pointer (some ⟨b1,off1+q,none⟩),.slice (some ⟨d1,o1,none⟩) pg.length cu,.int .i64 (k:Int),.pointer (some ⟨d1,o1+k * 3,none⟩),.agg #[.int .i64 (n:Int),.int .i64 sf,.int .i64 st],v58,v59,v60,v61,v62,v63,v64,v65,v66,v67,v68,v69,v70,v71,v72,u73,u74,u75,u76,u77,u78,u79,u80,u81,u82,u83,u84,u85,u86,u87,u88,u89,u90,u91,u92,u93,u94,u95,u96,u97,u98,u99,u100,u101,u102,u103,u104,u105,u106,u107,u108,u109,u110,u111,u112,u113,u114,u115,u116,u117,u118,u119,u120,u121,u122,u123,u124,u125,u126,u127,u128,u129,u130,u131,u132,u133,u134,u135,undef],[]⟩∧PwJ w tb gb sb ac ar ah cc cr ch t x rs n sf st y Wz L W v58 v59 v60 v61 v62 v63 v64 v65 v66 v67 v68 v69 v70 v71 v72 v11) hmx (by kernel_rfl) ?hs ?hd ?h0
       case h0=>exact ⟨_,_,_,_,_,_,_,_,_,_,_,_,_,_,_,_,rfl,⟨(fun h=>by cases h),(fun h=>by cases h),(fun h=>by cases h),(fun h=>by cases h),(fun h=>by cases h),(fun h=>by cases h),(fun h=>by cases h),(fun h=>by cases h),(fun h=>by cases h),(fun h=>by cases h),(fun h=>by cases h),(fun h=>by cases h),(fun h=>by cases h),(fun h=>by cases h),(fun h=>by cases h),(fun h=>by cases h),z1d (Below.refl _ _)⟩⟩
       case hd =>
        intro L act W hJ hall;obtain ⟨v58,v59,v60,v61,v62,v63,v64,v65,v66,v67,v68,v69,v70,v71,v72,v11,ha,J⟩:=hJ;subst ha;obtain rfl:=J.f15 (hall 15 (by decide));have HB9:=Hd J.b;clear J hall KR HS hbn;go_wp2_with fail
        go_meet
        case rel=>exact ⟨by rw [HY.out];congr 1;exact decide_eq_decide.2 ⟨fun h=>.inr h,fun h=>h.resolve_left (by omega)⟩,HB9⟩
       case hs =>
        intro L act W i o hJ hcl ho hLi haft K hK;obtain ⟨v58,v59,v60,v61,v62,v63,v64,v65,v66,v67,v68,v69,v70,v71,v72,v11,ha,J⟩:=hJ;subst ha
        have hi':i < 16:=by
         have:=(bL ho)
         simpa using this
        rcases (by omega:i=0∨i=1∨i=2∨i=3∨i=4∨i=5∨i=6∨i=7∨i=8∨i=9∨i=10∨i=11∨i=12∨i=13∨i=14∨i=15) with rfl | rfl | rfl | rfl | rfl | rfl | rfl | rfl | rfl | rfl | rfl | rfl | rfl | rfl | rfl | rfl
        all_goals
         simp only [List.getElem?_toArray,List.getElem?_cons_zero,List.getElem?_cons_succ,Option.some.injEq] at ho;subst ho;clear hi'
        ·go_simp;exact hK _ _ ⟨_,_,_,_,_,_,_,_,_,_,_,_,_,_,_,_,rfl,⟨(fun _=>rfl),uq J.f1,uq J.f2,uq J.f3,uq J.f4,uq J.f5,uq J.f6,uq J.f7,uq J.f8,uq J.f9,uq J.f10,uq J.f11,uq J.f12,uq J.f13,uq J.f14,uq J.f15,J.b⟩⟩
        ·obtain rfl:=J.f0 (Fa haft 0);have s1:=(J.b.cell (p:=⟨sb,1,none⟩) hsl).trans S1.out;have hsl5:=Nat.lt_of_lt_of_le hsl J.b.size;go_simp;exact hK _ _ ⟨_,_,_,_,_,_,_,_,_,_,_,_,_,_,_,_,rfl,⟨uq J.f0,(fun _=>rfl),uq J.f2,uq J.f3,uq J.f4,uq J.f5,uq J.f6,uq J.f7,uq J.f8,uq J.f9,uq J.f10,uq J.f11,uq J.f12,uq J.f13,uq J.f14,uq J.f15,J.b⟩⟩
        ·obtain rfl:=J.f1 (Fa haft 1);go_simp;exact hK _ _ ⟨_,_,_,_,_,_,_,_,_,_,_,_,_,_,_,_,rfl,⟨uq J.f0,uq J.f1,(fun _=>by first | rfl | simp [hsf]),uq J.f3,uq J.f4,uq J.f5,uq J.f6,uq J.f7,uq J.f8,uq J.f9,uq J.f10,uq J.f11,uq J.f12,uq J.f13,uq J.f14,uq J.f15,J.b⟩⟩
        ·obtain rfl:=J.f2 (Fa haft 2);go_simp;exact hK _ _ ⟨_,_,_,_,_,_,_,_,_,_,_,_,_,_,_,_,rfl,⟨uq J.f0,uq J.f1,uq J.f2,(fun _=>rfl),uq J.f4,uq J.f5,uq J.f6,uq J.f7,uq J.f8,uq J.f9,uq J.f10,uq J.f11,uq J.f12,uq J.f13,uq J.f14,uq J.f15,J.b⟩⟩
        ·obtain rfl:=J.f3 (haft ⟨3,.guard⟩ (by simp) rfl);rw [if_pos (by rfl)];go_simp;exact hK _ _ ⟨_,_,_,_,_,_,_,_,_,_,_,_,_,_,_,_,rfl,⟨uq J.f0,uq J.f1,uq J.f2,uq J.f3,(fun _=>rfl),uq J.f5,uq J.f6,uq J.f7,uq J.f8,uq J.f9,uq J.f10,uq J.f11,uq J.f12,uq J.f13,uq J.f14,uq J.f15,J.b⟩⟩
        ·obtain rfl:=J.f3 (haft ⟨3,.guard⟩ (by simp) rfl);obtain rfl:=J.f4 (Fa haft 4);have hsl5:=Nat.lt_of_lt_of_le hsl J.b.size;have s0:=(J.b.cell (p:=⟨sb,0,none⟩) hsl).trans S0.out;have s2:=(J.b.cell (p:=⟨sb,2,none⟩) hsl).trans S2.out;rw [if_pos (by rfl)];go_simp;exact hK _ _ ⟨_,_,_,_,_,_,_,_,_,_,_,_,_,_,_,_,rfl,⟨uq J.f0,uq J.f1,uq J.f2,uq J.f3,uq J.f4,(fun _=>rfl),uq J.f6,uq J.f7,uq J.f8,uq J.f9,uq J.f10,uq J.f11,uq J.f12,uq J.f13,uq J.f14,uq J.f15,J.b⟩⟩
        ·obtain rfl:=J.f3 (haft ⟨3,.guard⟩ (by simp) rfl);obtain ⟨q0,q1,q2,q3,q4⟩:=(HS.out.kept J.b).sg.1.at;have hl5:=Nat.lt_of_lt_of_le hlt0 J.b.size;rw [if_pos (by rfl)];go_simp;exact hK _ _ ⟨_,_,_,_,_,_,_,_,_,_,_,_,_,_,_,_,rfl,⟨uq J.f0,uq J.f1,uq J.f2,uq J.f3,uq J.f4,uq J.f5,(fun _=>rfl),uq J.f7,uq J.f8,uq J.f9,uq J.f10,uq J.f11,uq J.f12,uq J.f13,uq J.f14,uq J.f15,J.b⟩⟩
        ·obtain rfl:=J.f3 (haft ⟨3,.guard⟩ (by simp) rfl);rw [if_pos (by rfl)];go_simp;exact hK _ _ ⟨_,_,_,_,_,_,_,_,_,_,_,_,_,_,_,_,rfl,⟨uq J.f0,uq J.f1,uq J.f2,uq J.f3,uq J.f4,uq J.f5,uq J.f6,(fun _=>rfl),uq J.f8,uq J.f9,uq J.f10,uq J.f11,uq J.f12,uq J.f13,uq J.f14,uq J.f15,J.b⟩⟩
        ·obtain rfl:=J.f3 (haft ⟨3,.guard⟩ (by simp) rfl);obtain rfl:=J.f6 (Fa haft 6);obtain rfl:=J.f7 (Fa haft 7);rw [if_pos (by rfl)];go_simp;go_wp2_with (go_at_call 22;refine (KR.out W J.b).mono ?_;rintro e W2 ⟨v,rfl,hR9,hb⟩;have hI9:=hR9.at;clear hR9)
         exact ⟨_,_,_,_,_,_,_,_,_,_,_,_,_,_,_,_,rfl,⟨uq J.f0,uq J.f1,uq J.f2,uq J.f3,uq J.f4,uq J.f5,uq J.f6,uq J.f7,(fun _=>⟨0,hI9,rfl⟩),uq J.f9,uq J.f10,(fun h=>(J.f11 (un h)).elim fun b h=>h.elim fun o h=>⟨b,o,h.1,(hb.cell (p:=⟨b,o,none⟩) h.2.2).trans h.2.1,Nat.lt_of_lt_of_le h.2.2 hb.size⟩),uq J.f12,uq J.f13,uq J.f14,uq J.f15,zh J.b hb⟩⟩
        ·obtain rfl:=J.f3 (haft ⟨3,.guard⟩ (by simp) rfl);rw [if_pos (by rfl)];go_simp;exact hK _ _ ⟨_,_,_,_,_,_,_,_,_,_,_,_,_,_,_,_,rfl,⟨uq J.f0,uq J.f1,uq J.f2,uq J.f3,uq J.f4,uq J.f5,uq J.f6,uq J.f7,uq J.f8,(fun _=>rfl),uq J.f10,uq J.f11,uq J.f12,uq J.f13,uq J.f14,uq J.f15,J.b⟩⟩
        ·obtain rfl:=J.f3 (haft ⟨3,.guard⟩ (by simp) rfl);obtain rfl:=J.f9 (Fa haft 9);have hsl5:=Nat.lt_of_lt_of_le hsl J.b.size;have s0:=(J.b.cell (p:=⟨sb,0,none⟩) hsl).trans S0.out;have s2:=(J.b.cell (p:=⟨sb,2,none⟩) hsl).trans S2.out;rw [if_pos (by rfl)];go_simp;exact hK _ _ ⟨_,_,_,_,_,_,_,_,_,_,_,_,_,_,_,_,rfl,⟨uq J.f0,uq J.f1,uq J.f2,uq J.f3,uq J.f4,uq J.f5,uq J.f6,uq J.f7,uq J.f8,uq J.f9,(fun _=>rfl),uq J.f11,uq J.f12,uq J.f13,uq J.f14,uq J.f15,J.b⟩⟩
        ·obtain rfl:=J.f3 (haft ⟨3,.guard⟩ (by simp) rfl);obtain ⟨_,hI9,_⟩:=J.f8 (Fa haft 8);obtain rfl:=J.f10 (Fa haft 10);obtain ⟨rb,ro,rcap,rfl,ra1,ra2,ra3,ra4⟩:=hI9.get (i:=n) (by omega);unfold maxLen at ra2;rw [HY.out] at ra4;rw [if_pos (by rfl)];go_simp;exact hK _ _ ⟨_,_,_,_,_,_,_,_,_,_,_,_,_,_,_,_,rfl,⟨uq J.f0,uq J.f1,uq J.f2,uq J.f3,uq J.f4,uq J.f5,uq J.f6,uq J.f7,uq J.f8,uq J.f9,uq J.f10,(fun _=>⟨_,_,rfl,by simpa using ra4,ra3⟩),uq J.f12,uq J.f13,uq J.f14,uq J.f15,J.b⟩⟩
        ·obtain rfl:=J.f3 (haft ⟨3,.guard⟩ (by simp) rfl);obtain ⟨yb,yo,rfl,yc,yl⟩:=J.f11 (Fa haft 11);rw [if_pos (by rfl)];go_simp;exact hK _ _ ⟨_,_,_,_,_,_,_,_,_,_,_,_,_,_,_,_,rfl,⟨uq J.f0,uq J.f1,uq J.f2,uq J.f3,uq J.f4,uq J.f5,uq J.f6,uq J.f7,uq J.f8,uq J.f9,uq J.f10,uq J.f11,(fun _=>rfl),uq J.f13,uq J.f14,uq J.f15,J.b⟩⟩
        ·obtain rfl:=J.f3 (haft ⟨3,.guard⟩ (by simp) rfl);obtain rfl:=J.f5 (Fa haft 5);obtain rfl:=J.f12 (Fa haft 12);rw [if_pos (by rfl)];go_simp;exact hK _ _ ⟨_,_,_,_,_,_,_,_,_,_,_,_,_,_,_,_,rfl,⟨uq J.f0,uq J.f1,uq J.f2,uq J.f3,uq J.f4,uq J.f5,uq J.f6,uq J.f7,uq J.f8,uq J.f9,uq J.f10,uq J.f11,uq J.f12,(fun _=>by first | rfl | simp),uq J.f14,uq J.f15,J.b⟩⟩
        ·obtain rfl:=J.f3 (Fa haft 3);obtain rfl:=J.f13 (Fa haft 13);go_simp;exact hK _ _ ⟨_,_,_,_,_,_,_,_,_,_,_,_,_,_,_,_,rfl,⟨uq J.f0,uq J.f1,uq J.f2,uq J.f3,uq J.f4,uq J.f5,uq J.f6,uq J.f7,uq J.f8,uq J.f9,uq J.f10,uq J.f11,uq J.f12,uq J.f13,(fun _=>by first | rfl | simp),uq J.f15,J.b⟩⟩
        ·obtain rfl:=J.f14 (Fa haft 14);go_simp;exact hK _ _ ⟨_,_,_,_,_,_,_,_,_,_,_,_,_,_,_,_,rfl,⟨uq J.f0,uq J.f1,uq J.f2,uq J.f3,uq J.f4,uq J.f5,uq J.f6,uq J.f7,uq J.f8,uq J.f9,uq J.f10,uq J.f11,uq J.f12,uq J.f13,uq J.f14,(fun _=>by first | rfl | simp),J.b⟩⟩
     case rest=>as_aux_lemma =>
      clear KR;obtain ⟨rfl,HB9⟩:=hcut;replace HS:=Hd (HS.out.kept HB9.out);replace HBz:=Hd (zh HBz.out HB9.out);have HXt:=Hd ((HB9.out.block sb hsl).trans HXs.out);obtain ⟨W9,hW9⟩:∃ W9,W9=wc:=⟨_,rfl⟩;subst hW9;clear HB9 HXs S0 S1 S2 hlt0 hsl;have hfit:=HF.out.fit;have hwl:=HF.out.whole;have hce:=HF.out.cell;simp only at hwl hce;obtain ⟨cut,hcut⟩:∃ cut:Bool,decide (0 < sf∨st < rs.getD n 0)=cut:=⟨_,rfl⟩;have HWl:Hid (cut=true→(t.rows.getD n dR).whole=false):=fun h=>hwl (of_decide_eq_true (hcut.trans h))
      have HCe:Hid (∀ c ∈ (gOf t).cells,c.row≤n→(n:Int) < c.row+c.rows→c.rows ≠ 1→cut=false∧z3r pss c.row=(q:Int)∧z3r pss (c.row+c.rows - 1)=(q:Int)):=fun c hc h1 h2 h3=>by
       obtain ⟨⟨h4,h5⟩,h6,h7⟩:=hce c hc h1 h2 h3;exact ⟨by rw [← hcut];exact decide_eq_false (by omega),h6,h7⟩
      have HFit:=Hd hfit;rw [hcut];clear hfit hwl hce hcut HF;obtain ⟨s0,s1,s2⟩:=z22 HXt.out;obtain ⟨z0,z1,z2,z3,z4⟩:=HS.out.sg.1.at;obtain ⟨g0,g1,g2⟩:=HS.out.sg.at;obtain ⟨agf,cgf,hge,hlg⟩:=At.form HS.out.sg.2.1;clear hge agf cgf;unfold maxLen at hlg;obtain ⟨rb,ro,rcap,er,ra1,ra2,ra3,ru,ra4,ra5,_⟩:=At.get HS.out.sg.1.2.1.2 hn8.1;simp only [Value.slice.injEq,true_and] at er;obtain ⟨rfl,rfl⟩:=er;unfold maxLen at ra2
      cases cut
      case' true=>rw [HWl.out rfl] at ra5
      all_goals
       clear HWl;go_wp2_with fail
       go_loopw [12] (fun i W=>∃ j:Nat,i=.int .i64 (j:Int)∧j≤(gOf t).cells.length∧Hid (Below W9.heap.size W9 W)) (fun i _=>(gOf t).cells.length - (intOf i).toNat)
       case atStart=>exact ⟨0,rfl,Nat.zero_le _,Below.refl _ _⟩
       case round=>as_aux_lemma =>
        clear s0 s1 s2 z0 z1 z2 z3 z4 g0 g1 g2 ra4 ra5;obtain ⟨j,rfl,hj,HBj⟩:=hrel;have HSj:=Hd (HS.out.kept HBj.out);obtain ⟨g0,g1,g2⟩:=HSj.out.sg.at;by_cases hjl:j < (gOf t).cells.length
        case neg =>
         obtain rfl:j=(gOf t).cells.length:=by omega
         have HBe:=Hd (zh HBz.out HBj.out);go_wp2;go_roundw
         case rel=>exact ⟨k+1,by go_num,by omega,HBe⟩
         case measure=>simp [intOf];omega
        case pos =>
         obtain ⟨gq,gof,gcap,er,gc1,gc2,gc3,⟨p0,p1,p2,p3,p4⟩,_⟩:=At.get HSj.out.sg.2.1 hjl;simp only [Value.slice.injEq,true_and] at er;obtain ⟨rfl,rfl⟩:=er;unfold maxLen at gc2
         have hm:(gOf t).cells.getD j dG ∈ (gOf t).cells:=by
          have e:(gOf t).cells.getD j dG=(gOf t).cells[j]:=(by simp [List.getD,hjl]);rw [e];exact List.getElem_mem hjl
         have HC:=Hd (HCe.out _ hm);obtain ⟨hf1,hf2,hf3⟩:=HFit.out _ hm;generalize (gOf t).cells.getD j dG=c at p0 p1 p2 p3 p4 HC hf1 hf2 hf3;obtain ⟨c0,c1',c2,c3,c4⟩:=c;simp only at p0 p1 p2 p3 p4 hf1 hf2 hf3;clear hm;go_upto_region 22 with fail
         have KC:=ze (Below.refl wr.heap.size wr) (.cells #[.int .i64 c0,.int .i64 c1',.int .i64 c2,.int .i64 c3,.int .i64 c4] 51);have hXc:=zj wr (.cells #[.int .i64 c0,.int .i64 c1',.int .i64 c2,.int .i64 c3,.int .i64 c4] 51);have hXs:=((HBj.out.block sb (bL HXt.out)).trans HXt.out);have HPc:=Hd ((HSj.out.kept KC).ps);have hXs2:=(KC.block sb (bL hXs)).trans hXs;have HBc:=Hd (zh HBj.out KC);generalize wr.alloc (.cells #[.int .i64 c0,.int .i64 c1',.int .i64 c2,.int .i64 c3,.int .i64 c4] 51)=Wc at hXc HPc hXs2 HBc ⊢;generalize wr.heap.size=cb at hXc ⊢;obtain ⟨s0,s1,s2⟩:=z22 hXs2;have HXc:=Hd hXc;have x0:=zf (p:=0) hXc;have x2:=zf (p:=2) hXc;simp only [List.getElem?_toArray,List.getElem?_cons_zero,List.getElem?_cons_succ] at x0 x2;clear p0 p1 p2 p3 p4 g0 g1 g2 KC hXs hXs2 hXc HBj HSj;have hw1:IntKind.i64.wrap (c0+c2)=c0+c2:=(by rw [IntKind.wrap_i64];omega);have hw2:IntKind.i64.wrap (c0+c2 - 1)=c0+c2 - 1:=(by rw [IntKind.wrap_i64];omega)
         have hcs:(n:Int) < c0∨(¬ (n:Int) < c0∧c0+c2≤(n:Int))∨(¬ (n:Int) < c0∧¬ c0+c2≤(n:Int)∧(c2 == 1)=true)∨(¬ (n:Int) < c0∧¬ c0+c2≤(n:Int)∧(c2 == 1)=false):=by
          cases c2 == 1 <;> simp only [and_true,and_false,Bool.false_eq_true,Bool.true_eq_false] <;> omega
         rcases hcs with h1 | ⟨h1,h2⟩ | ⟨h1,h2,h3⟩ | ⟨h1,h2,h3⟩
         rotate_left 3
         ·obtain ⟨hct,hq1,hq2⟩:=HC.out (by show c0≤_;omega) (by show _ < c0+c2;omega) (beq_eq_false_iff_ne.1 h3)
          cases hct
          all_goals
           have HQ1:=Hd hq1;have HQ2:=Hd hq2;clear hq1 hq2;have hqq:((q:Int) != (q:Int))=false:=(by simp);go_wp2_with fail
           refine (z8x _ pss c0 _ HPc.out).mono ?_;rintro e Wd ⟨rfl,hbd⟩;have HPd:=Hd (HPc.out.kept hbd);have hXd:=(hbd.block cb (bL HXc.out)).trans HXc.out;have x0:=zf (p:=0) hXd;have x2:=zf (p:=2) hXd;simp only [List.getElem?_toArray,List.getElem?_cons_zero,List.getElem?_cons_succ] at x0 x2;have HBd:=Hd (zh HBc.out hbd);rw [show z3r pss c0=(q:Int) from HQ1.out];clear hbd hXd HPc HBc;go_wp2_with fail
           refine (z8x _ pss (c0+c2 - 1) _ HPd.out).mono ?_;rintro e We ⟨rfl,hbe⟩;have HBe:=Hd (zh HBd.out hbe);rw [show z3r pss (c0+c2 - 1)=(q:Int) from HQ2.out];clear hbe HPd HBd;go_wp2;go_roundw
           case rel=>exact ⟨j+1,by go_num,by omega,HBe⟩
           case measure=>simp [intOf];omega
         all_goals
          go_wp2;go_roundw
          case rel=>exact ⟨j+1,by go_num,by omega,HBc⟩
          case measure=>simp [intOf];omega
theorem ze7 (A:Option Addr) (len cap:Nat) (w:World) (h:z3D w A len cap) :
  Calls Tryz.prog 4 #[.slice A len cap] w fun e w'=>e=.returned (.bool true)∧Below w.heap.size w w':=by
 have hlen:len≤maxLen:=Nat.le_trans h.1 h.2.1;unfold maxLen at hlen;by_cases hbig:len≤1048576
 ·exact ze6 A len cap hbig w h
 ·clear h;have hb:(1048576:Int) < (len:Int):=(by omega);go_enter Tryz.func4,Tryz.ntmps4;go_wp2;go_ret;exact ⟨rfl,Below.refl _ _⟩
end Go.Proofs.YtggmjiddadjilahGreat
