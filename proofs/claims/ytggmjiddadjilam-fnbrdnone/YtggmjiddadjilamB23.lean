/-
  PROVED HERE: the model's l8Beside at a drawn table's grid is the border that is shown; nothing that was in memory is turned. Also: 2 more texts of the same proof.
-/
import Derived.Test.YtggmjiddadjilamB22
set_option maxRecDepth 1000000
set_option maxHeartbeats 40000000
namespace Go.Proofs.Ytggmjiddadjilam
section
open Go.RowKit
theorem z3v (x0 x1 x2 x3 x4 x5 x6 x7 x8 x9 x10:Value) (W:World):(Instr.field 35 (.agg #[x0,x1,x2,x3,x4,x5,x6,x7,x8,x9,x10]) 4).run Try.prog W=.ok (.agg #[x5,x6]) W:=by kernel_rfl
theorem z3w (x0 x1 x2 x3 x4 x5 x6 x7 x8 x9 x10:Value) (W:World):(Instr.field 35 (.agg #[x0,x1,x2,x3,x4,x5,x6,x7,x8,x9,x10]) 6).run Try.prog W=.ok (.agg #[x9,x10]) W:=by kernel_rfl
theorem z4u (ac ar ag:Option Addr) (cc cr cg:Nat) (t:T) (hD:z0o t) (r c:Int) (hr:-1000≤r∧r≤1000) (hc:-1000≤c∧c≤1000) (w:World) {z zg:Nat} (hW:zD w z (.slice ar t.rows.length cr) t.rows) (hG:z03 w zg (.slice ag (gOf t).cells.length cg) (gOf t).cells) :
  Calls Try.prog 65 #[.agg #[.slice ac t.cols.length cc,.int .i64 t.head,.int .i64 t.foot,.slice ar t.rows.length cr,.int .i64 t.gap],.agg #[.int .i64 (gOf t).rows,.int .i64 (gOf t).cols,.slice ag (gOf t).cells.length cg],.int .i64 r,.int .i64 c] w fun e w'=>e=.returned (.agg #[.int .i64 (zm t r c).s,.int .i64 (zm t r c).w,.int .i64 (zm t r c).c])∧Below w.heap.size w w':=by
 obtain ⟨i0,hi0,hz0,hz1,hz2⟩:=info_parts z3n;have hfa:=z3v;have hfb:=z3w;obtain ⟨W0,hW0⟩:∃ W,((w.alloc (.cells #[.slice ac t.cols.length cc,.int .i64 t.head,.int .i64 t.foot,.slice ar t.rows.length cr,.int .i64 t.gap] 26)).alloc (.cells #[.int .i64 (gOf t).rows,.int .i64 (gOf t).cols,.slice ag (gOf t).cells.length cg] 98)).alloc (.cells #[.int .i64 0,.int .i64 0,.int .i64 0] 62)=W:=⟨_,rfl⟩;have K3:Below w.heap.size w W0:=(by rw [← hW0];exact zb (zb (zb (Below.refl _ _) _) _) _);have X0:W0.heap[w.heap.size]?=some (.cells #[.slice ac t.cols.length cc,.int .i64 t.head,.int .i64 t.foot,.slice ar t.rows.length cr,.int .i64 t.gap] 26):=(by rw [← hW0];exact z0i (z0i (z0q _ _) _) _);have X1:W0.heap[w.heap.size+1]?=some (.cells #[.int .i64 (gOf t).rows,.int .i64 (gOf t).cols,.slice ag (gOf t).cells.length cg] 98):=(by rw [← hW0];exact z0i (z1l _ _ _) _)
 have X2:W0.heap[w.heap.size+1+1]?=some (.cells #[.int .i64 0,.int .i64 0,.int .i64 0] 62):=by
  have h:=z0q ((w.alloc (.cells #[.slice ac t.cols.length cc,.int .i64 t.head,.int .i64 t.foot,.slice ar t.rows.length cr,.int .i64 t.gap] 26)).alloc (.cells #[.int .i64 (gOf t).rows,.int .i64 (gOf t).cols,.slice ag (gOf t).cells.length cg] 98)) (.cells #[.int .i64 0,.int .i64 0,.int .i64 0] 62);rw [show ((w.alloc (.cells #[.slice ac t.cols.length cc,.int .i64 t.head,.int .i64 t.foot,.slice ar t.rows.length cr,.int .i64 t.gap] 26)).alloc (.cells #[.int .i64 (gOf t).rows,.int .i64 (gOf t).cols,.slice ag (gOf t).cells.length cg] 98)).heap.size=w.heap.size+1+1 by simp,hW0] at h;exact h
 have HX:=Hd (And.intro X0 (And.intro X1 X2));have HK0:=Hd K3;have hl0:w.heap.size < W0.heap.size:=(bL X0);have hl1:w.heap.size+1 < W0.heap.size:=(bL X1);have hl2:w.heap.size+1+1 < W0.heap.size:=(bL X2);have HM:=Hd (And.intro (hW.kept K3) (hG.kept K3));have KA:=Hd (fun W (h:Below W0.heap.size W0 W)=>z28 (gOf t).rows (gOf t).cols ag cg (gOf t).cells r (c - 1) (by unfold I64;omega) (by unfold I64;omega) W (HM.out.2.kept h));have KB:=Hd (fun W (h:Below W0.heap.size W0 W)=>z28 (gOf t).rows (gOf t).cols ag cg (gOf t).cells r c (by unfold I64;omega) (by unfold I64;omega) W (HM.out.2.kept h));have KC:=Hd (fun k (hk:k < (gOf t).cells.length) W (h:Below W0.heap.size W0 W)=>z3s ac ar ag cc cr cg t hD k hk W (HM.out.1.kept h) (HM.out.2.kept h));have HF:Hid (zm t r c=z0a ⟨(zq t (atN t r (c - 1))).a2,(zq t (atN t r (c - 1))).b2,atN t r (c - 1)⟩ ⟨(zq t (atN t r c)).a4,(zq t (atN t r c)).b4,atN t r c⟩):=rfl;have ha:=z3p t r (c - 1);have hb0:=z3p t r c;rw [show z0O (z09 r (c - 1)) (gOf t).cells=atN t r (c - 1) from rfl] at KA;rw [show z0O (z09 r c) (gOf t).cells=atN t r c from rfl] at KB;generalize atN t r (c - 1)=a at KA HF ha;generalize atN t r c=b at KB HF hb0;obtain ⟨⟨q0,q1,q2⟩,_⟩:=zy X1;clear hW hG K3 X0 X1 X2 hD;go_enter Try.func65,Try.ntmps65;go_upto_region 1 with fail
 clear hW0;go_wp2_with fail
 refine (KA.out _ (Below.refl _ _)).mono ?_;rintro e w1 ⟨rfl,hb1⟩;have HB1:=Hd hb1;clear hb1 q0 q1 q2 KA;obtain ⟨⟨q0,q1,q2⟩,_⟩:=zy ((HB1.out.block _ hl1).trans HX.out.2.1);go_wp2_with fail
 refine (KB.out _ HB1.out).mono ?_;rintro e w2 ⟨rfl,hb2⟩;have HB:=Hd (zb (ze HB1.out hb2) (.cells #[] 62));have HO:Hid ((w2.alloc (.cells #[] 62)).ownsRow W0.heap.size 62 3 (.slice (some ⟨w2.heap.size,0,none⟩) 0 0) ([]:List Fr).length (([]:List Fr).flatMap z0j)):=World.ownsRow_made (base:=W0.heap.size) (e:=62) (size:=3) w2 #[] 0 (ze HB1.out hb2).size (Nat.zero_le _) rfl;clear hb2 q0 q1 q2 KB HB1;go_upto_region 4 with fail
 generalize w2.alloc (.cells #[] 62)=W3 at HB HO ⊢;generalize w2.heap.size=lb at HO ⊢
 rcases ha with rfl | ⟨k1,rfl,hk1⟩
 ·rcases hb0 with rfl | ⟨k2,rfl,hk2⟩
  ·have HFr:=Hd (z14 HO.out);go_wp2_with fail
   refine (z0t _ [] (by simp) _ HFr.out).mono ?_;rintro e w9 ⟨rfl,hb⟩;have HE:Hid (zJ []=zm t r c):=(by rw [Hid,HF.out];rw [z1Q,z0a,if_pos rfl]);rw [HE.out];replace HB:=Hd (ze HB.out hb);have X9:=(HB.out.block _ hl2).trans HX.out.2.2;obtain ⟨⟨d0,d1,d2⟩,f0,f1,f2⟩:=zy X9;have HBl:=Hd ((ze HK0.out HB.out).trans ((z0g w9 (w.heap.size+1+1) (.int .i64 (zm t r c).s) (.int .i64 (zm t r c).w) (.int .i64 (zm t r c).c)).below (ze HK0.out HB.out).size (by omega)));clear hb X9 HO HFr;go_wp2;exact bodyPost_ret (v:=.agg #[.int .i64 (zm t r c).s,.int .i64 (zm t r c).w,.int .i64 (zm t r c).c]) (by simp [results,Try.results65,go_sem,d0,d1,d2]) rfl ⟨rfl,HBl.out⟩
  ·have hne:((-1:Int) != (k2:Int))=true:=bne_iff_ne.2 (by omega);have Hk2:Hid (True):=trivial;generalize hyy:zq t (k2:Int)=y at HF;have HY:=Hd hyy;clear hyy;obtain ⟨⟨b0,b1,b2,b3,b4⟩,_⟩:=z0c ((HB.out.block _ hl0).trans HX.out.1);obtain ⟨⟨g0,g1,g2⟩,_⟩:=zy ((HB.out.block _ hl1).trans HX.out.2.1);go_wp2_with fail
   refine (KC.out k2 hk2 _ HB.out).mono ?_;rintro e wc2 ⟨rfl,hb⟩;rw [HY.out];replace HB:=Hd (ze HB.out hb);replace HO:=Hd (z0m HO.out hb);have hO4:=HO.out;have hszB:W0.heap.size≤wc2.heap.size:=HB.out.size;clear hb b0 b1 b2 b3 b4 g0 g1 g2;go_wp2_with (at_builtin;refine wpList_append_own _ rfl _ _ 59 rfl W0.heap.size 62 i0 _ 3 24 Try.underlying59 hi0 hz0 hz1 hz2 rfl (by decide) _ _ _ rfl (hO4.alloc _) ⟨wc2.heap.size,0,none⟩ 1 1 (z0j ⟨y.a4,y.b4,(k2:Int)⟩) rfl rfl (z02 (zf _ _)) (by simp [z0j,Value.oneCell']) (by unfold maxLen;simp) (by simp) (by simp;omega) ?_)
   intro v2 wd2 hown' hgrow' _;replace HB:=Hd ((zb HB.out _).grown hgrow' (by simp;omega) (fun q hq=>(hO4.lt q hq).1));replace HO:Hid (wd2.ownsRow W0.heap.size 62 3 v2 ([] ++ [⟨y.a4,y.b4,(k2:Int)⟩]:List Fr).length (([] ++ [⟨y.a4,y.b4,(k2:Int)⟩]:List Fr).flatMap z0j)):=Hd (by simpa [List.flatMap_append] using hown');obtain ⟨aa2,ca2,rfl,_⟩:=zu hown';clear hown' hgrow' hO4 hszB;have HFr:=Hd (z14 HO.out);go_wp2_with fail
   refine (z0t _ ([] ++ [⟨y.a4,y.b4,(k2:Int)⟩]) (by simp) _ HFr.out).mono ?_;rintro e w9 ⟨rfl,hb⟩;have HE:Hid (zJ ([] ++ [⟨y.a4,y.b4,(k2:Int)⟩])=zm t r c):=(by rw [Hid,HF.out];rw [show ([] ++ [(⟨y.a4,y.b4,(k2:Int)⟩:Fr)])=[⟨y.a4,y.b4,(k2:Int)⟩] from rfl,z1I,z0a,if_neg (show ¬ (-1:Int)=(k2:Int) by omega),if_pos (show (-1:Int) < 0 by omega)]);rw [HE.out];replace HB:=Hd (ze HB.out hb);have X9:=(HB.out.block _ hl2).trans HX.out.2.2;obtain ⟨⟨d0,d1,d2⟩,f0,f1,f2⟩:=zy X9;have HBl:=Hd ((ze HK0.out HB.out).trans ((z0g w9 (w.heap.size+1+1) (.int .i64 (zm t r c).s) (.int .i64 (zm t r c).w) (.int .i64 (zm t r c).c)).below (ze HK0.out HB.out).size (by omega)));clear hb X9 HO HFr;go_wp2;exact bodyPost_ret (v:=.agg #[.int .i64 (zm t r c).s,.int .i64 (zm t r c).w,.int .i64 (zm t r c).c]) (by simp [results,Try.results65,go_sem,d0,d1,d2]) rfl ⟨rfl,HBl.out⟩
 ·generalize hxx:zq t (k1:Int)=x at HF;have HXc:=Hd hxx;clear hxx
  rcases hb0 with rfl | ⟨k2,rfl,hk2⟩
  ·have hne:((k1:Int) != (-1:Int))=true:=bne_iff_ne.2 (by omega);obtain ⟨⟨b0,b1,b2,b3,b4⟩,_⟩:=z0c ((HB.out.block _ hl0).trans HX.out.1);obtain ⟨⟨g0,g1,g2⟩,_⟩:=zy ((HB.out.block _ hl1).trans HX.out.2.1);go_wp2_with fail
   refine (KC.out k1 hk1 _ HB.out).mono ?_;rintro e wc1 ⟨rfl,hb⟩;rw [HXc.out];replace HB:=Hd (ze HB.out hb);replace HO:=Hd (z0m HO.out hb);have hO4:=HO.out;have hszB:W0.heap.size≤wc1.heap.size:=HB.out.size;clear hb b0 b1 b2 b3 b4 g0 g1 g2;go_wp2_with (at_builtin;refine wpList_append_own _ rfl _ _ 59 rfl W0.heap.size 62 i0 _ 3 24 Try.underlying59 hi0 hz0 hz1 hz2 rfl (by decide) _ _ _ rfl (hO4.alloc _) ⟨wc1.heap.size,0,none⟩ 1 1 (z0j ⟨x.a2,x.b2,(k1:Int)⟩) rfl rfl (z02 (zf _ _)) (by simp [z0j,Value.oneCell']) (by unfold maxLen;simp) (by simp) (by simp;omega) ?_)
   intro v1 wd1 hown' hgrow' _;replace HB:=Hd ((zb HB.out _).grown hgrow' (by simp;omega) (fun q hq=>(hO4.lt q hq).1));replace HO:Hid (wd1.ownsRow W0.heap.size 62 3 v1 ([] ++ [⟨x.a2,x.b2,(k1:Int)⟩]:List Fr).length (([] ++ [⟨x.a2,x.b2,(k1:Int)⟩]:List Fr).flatMap z0j)):=Hd (by simpa [List.flatMap_append] using hown');obtain ⟨aa1,ca1,rfl,_⟩:=zu hown';clear hown' hgrow' hO4 hszB;have HFr:=Hd (z14 HO.out);go_wp2_with fail
   refine (z0t _ ([] ++ [⟨x.a2,x.b2,(k1:Int)⟩]) (by simp) _ HFr.out).mono ?_;rintro e w9 ⟨rfl,hb⟩;have HE:Hid (zJ ([] ++ [⟨x.a2,x.b2,(k1:Int)⟩])=zm t r c):=(by rw [Hid,HF.out];rw [show ([] ++ [(⟨x.a2,x.b2,(k1:Int)⟩:Fr)])=[⟨x.a2,x.b2,(k1:Int)⟩] from rfl,z1I,z0a,if_neg (show ¬ (k1:Int)=-1 by omega),if_neg (show ¬ (k1:Int) < 0 by omega),if_pos (show (-1:Int) < 0 by omega)]);rw [HE.out];replace HB:=Hd (ze HB.out hb);have X9:=(HB.out.block _ hl2).trans HX.out.2.2;obtain ⟨⟨d0,d1,d2⟩,f0,f1,f2⟩:=zy X9;have HBl:=Hd ((ze HK0.out HB.out).trans ((z0g w9 (w.heap.size+1+1) (.int .i64 (zm t r c).s) (.int .i64 (zm t r c).w) (.int .i64 (zm t r c).c)).below (ze HK0.out HB.out).size (by omega)));clear hb X9 HO HFr;go_wp2;exact bodyPost_ret (v:=.agg #[.int .i64 (zm t r c).s,.int .i64 (zm t r c).w,.int .i64 (zm t r c).c]) (by simp [results,Try.results65,go_sem,d0,d1,d2]) rfl ⟨rfl,HBl.out⟩
  ·by_cases hkk:k1=k2
   ·subst hkk;have hne:((k1:Int) != (k1:Int))=false:=(by simp);have HFr:=Hd (z14 HO.out);go_wp2_with fail
    refine (z0t _ [] (by simp) _ HFr.out).mono ?_;rintro e w9 ⟨rfl,hb⟩;have HE:Hid (zJ []=zm t r c):=(by rw [Hid,HF.out];rw [z1Q,z0a,if_pos rfl]);rw [HE.out];replace HB:=Hd (ze HB.out hb);have X9:=(HB.out.block _ hl2).trans HX.out.2.2;obtain ⟨⟨d0,d1,d2⟩,f0,f1,f2⟩:=zy X9;have HBl:=Hd ((ze HK0.out HB.out).trans ((z0g w9 (w.heap.size+1+1) (.int .i64 (zm t r c).s) (.int .i64 (zm t r c).w) (.int .i64 (zm t r c).c)).below (ze HK0.out HB.out).size (by omega)));clear hb X9 HO HFr;go_wp2;exact bodyPost_ret (v:=.agg #[.int .i64 (zm t r c).s,.int .i64 (zm t r c).w,.int .i64 (zm t r c).c]) (by simp [results,Try.results65,go_sem,d0,d1,d2]) rfl ⟨rfl,HBl.out⟩
   ·have hne:((k1:Int) != (k2:Int))=true:=bne_iff_ne.2 (by omega);generalize hyy:zq t (k2:Int)=y at HF;have HY:=Hd hyy;clear hyy;have Hkk:=Hd hkk;clear hkk;obtain ⟨⟨b0,b1,b2,b3,b4⟩,_⟩:=z0c ((HB.out.block _ hl0).trans HX.out.1);obtain ⟨⟨g0,g1,g2⟩,_⟩:=zy ((HB.out.block _ hl1).trans HX.out.2.1);go_wp2_with fail
    refine (KC.out k1 hk1 _ HB.out).mono ?_;rintro e wc1 ⟨rfl,hb⟩;rw [HXc.out];replace HB:=Hd (ze HB.out hb);replace HO:=Hd (z0m HO.out hb);have hO4:=HO.out;have hszB:W0.heap.size≤wc1.heap.size:=HB.out.size;clear hb b0 b1 b2 b3 b4 g0 g1 g2;go_wp2_with (at_builtin;refine wpList_append_own _ rfl _ _ 59 rfl W0.heap.size 62 i0 _ 3 24 Try.underlying59 hi0 hz0 hz1 hz2 rfl (by decide) _ _ _ rfl (hO4.alloc _) ⟨wc1.heap.size,0,none⟩ 1 1 (z0j ⟨x.a2,x.b2,(k1:Int)⟩) rfl rfl (z02 (zf _ _)) (by simp [z0j,Value.oneCell']) (by unfold maxLen;simp) (by simp) (by simp;omega) ?_)
    intro v1 wd1 hown' hgrow' _;replace HB:=Hd ((zb HB.out _).grown hgrow' (by simp;omega) (fun q hq=>(hO4.lt q hq).1));replace HO:Hid (wd1.ownsRow W0.heap.size 62 3 v1 ([] ++ [⟨x.a2,x.b2,(k1:Int)⟩]:List Fr).length (([] ++ [⟨x.a2,x.b2,(k1:Int)⟩]:List Fr).flatMap z0j)):=Hd (by simpa [List.flatMap_append] using hown');obtain ⟨aa1,ca1,rfl,_⟩:=zu hown';clear hown' hgrow' hO4 hszB;obtain ⟨⟨b0,b1,b2,b3,b4⟩,_⟩:=z0c ((HB.out.block _ hl0).trans HX.out.1);obtain ⟨⟨g0,g1,g2⟩,_⟩:=zy ((HB.out.block _ hl1).trans HX.out.2.1);go_wp2_with fail
    refine (KC.out k2 hk2 _ HB.out).mono ?_;rintro e wc2 ⟨rfl,hb⟩;rw [HY.out];replace HB:=Hd (ze HB.out hb);replace HO:=Hd (z0m HO.out hb);have hO4:=HO.out;have hszB:W0.heap.size≤wc2.heap.size:=HB.out.size;clear hb b0 b1 b2 b3 b4 g0 g1 g2;go_wp2_with (at_builtin;refine wpList_append_own _ rfl _ _ 59 rfl W0.heap.size 62 i0 _ 3 24 Try.underlying59 hi0 hz0 hz1 hz2 rfl (by decide) _ _ _ rfl (hO4.alloc _) ⟨wc2.heap.size,0,none⟩ 1 1 (z0j ⟨y.a4,y.b4,(k2:Int)⟩) rfl rfl (z02 (zf _ _)) (by simp [z0j,Value.oneCell']) (by unfold maxLen;simp) (by simp) (by simp;omega) ?_)
    intro v2 wd2 hown' hgrow' _;replace HB:=Hd ((zb HB.out _).grown hgrow' (by simp;omega) (fun q hq=>(hO4.lt q hq).1));replace HO:Hid (wd2.ownsRow W0.heap.size 62 3 v2 (([] ++ [⟨x.a2,x.b2,(k1:Int)⟩]) ++ [⟨y.a4,y.b4,(k2:Int)⟩]:List Fr).length ((([] ++ [⟨x.a2,x.b2,(k1:Int)⟩]) ++ [⟨y.a4,y.b4,(k2:Int)⟩]:List Fr).flatMap z0j)):=Hd (by simpa [List.flatMap_append] using hown');obtain ⟨aa2,ca2,rfl,_⟩:=zu hown';clear hown' hgrow' hO4 hszB;have HFr:=Hd (z14 HO.out);go_wp2_with fail
    refine (z0t _ (([] ++ [⟨x.a2,x.b2,(k1:Int)⟩]) ++ [⟨y.a4,y.b4,(k2:Int)⟩]) (by simp) _ HFr.out).mono ?_;rintro e w9 ⟨rfl,hb⟩;have HE:Hid (zJ (([] ++ [⟨x.a2,x.b2,(k1:Int)⟩]) ++ [⟨y.a4,y.b4,(k2:Int)⟩])=zm t r c):=(by rw [Hid,HF.out];rw [show (([] ++ [(⟨x.a2,x.b2,(k1:Int)⟩:Fr)]) ++ [(⟨y.a4,y.b4,(k2:Int)⟩:Fr)])=[⟨x.a2,x.b2,(k1:Int)⟩,⟨y.a4,y.b4,(k2:Int)⟩] from rfl,z31,z0a,if_neg (show ¬ (k1:Int)=(k2:Int) by have:=Hkk.out;omega),if_neg (show ¬ (k1:Int) < 0 by omega),if_neg (show ¬ (k2:Int) < 0 by omega)]);rw [HE.out];replace HB:=Hd (ze HB.out hb);have X9:=(HB.out.block _ hl2).trans HX.out.2.2;obtain ⟨⟨d0,d1,d2⟩,f0,f1,f2⟩:=zy X9;have HBl:=Hd ((ze HK0.out HB.out).trans ((z0g w9 (w.heap.size+1+1) (.int .i64 (zm t r c).s) (.int .i64 (zm t r c).w) (.int .i64 (zm t r c).c)).below (ze HK0.out HB.out).size (by omega)));clear hb X9 HO HFr;go_wp2;exact bodyPost_ret (v:=.agg #[.int .i64 (zm t r c).s,.int .i64 (zm t r c).w,.int .i64 (zm t r c).c]) (by simp [results,Try.results65,go_sem,d0,d1,d2]) rfl ⟨rfl,HBl.out⟩
end
section
open Go.RowKit Go.BigFrame
theorem z4J (a b:GC) (ha:Sm a) (hb:Sm b) (w:World) :
  Calls Try.prog 103 #[.agg #[.int .i64 a.row,.int .i64 a.col,.int .i64 a.rows,.int .i64 a.cols,.int .i64 a.ins],.agg #[.int .i64 b.row,.int .i64 b.col,.int .i64 b.rows,.int .i64 b.cols,.int .i64 b.ins]] w fun e w'=>e=.returned (.bool (zZ a b))∧Below w.heap.size w w':=by
 obtain ⟨a0,a1,a2,a3⟩:=ha;obtain ⟨b0,b1,b2,b3⟩:=hb;by_cases h1:a.row < b.row+b.rows
 ·by_cases h2:b.row < a.row+a.rows
  ·by_cases h3:a.col < b.col+b.cols
   ·have HE:Hid (zZ a b=decide (b.col < a.col+a.cols)):=by
     show zZ a b=_;simp only [zZ,h1,h2,h3,decide_true,Bool.true_and]
    go_enter Try.func103,Try.ntmps103;go_wp2;go_ret;exact ⟨zr HE.out.symm,zb (zb (Below.refl _ _) _) _⟩
   ·have HE:Hid (zZ a b=false):=by
     show zZ a b=_;simp only [zZ,h3,decide_false,Bool.false_and,Bool.and_false]
    go_enter Try.func103,Try.ntmps103;go_wp2;go_ret;exact ⟨zr HE.out.symm,zb (zb (Below.refl _ _) _) _⟩
  ·have HE:Hid (zZ a b=false):=by
    show zZ a b=_;simp only [zZ,h2,decide_false,Bool.false_and,Bool.and_false]
   go_enter Try.func103,Try.ntmps103;go_wp2;go_ret;exact ⟨zr HE.out.symm,zb (zb (Below.refl _ _) _) _⟩
 ·have HE:Hid (zZ a b=false):=by
   show zZ a b=_;simp only [zZ,h1,decide_false,Bool.false_and]
  go_enter Try.func103,Try.ntmps103;go_wp2;go_ret;exact ⟨zr HE.out.symm,zb (zb (Below.refl _ _) _) _⟩
theorem z5k (ac:Option Addr) (cc:Nat) (gs:List GC) (hgs:∀ a ∈ gs,Sm a) (x:GC) (hxs:Sm x) (w:World) {z:Nat} (h:z03 w z (.slice ac gs.length cc) gs) :
  Calls Try.prog 87 #[.slice ac gs.length cc,.agg #[.int .i64 x.row,.int .i64 x.col,.int .i64 x.rows,.int .i64 x.cols,.int .i64 x.ins]] w fun e w'=>e=.returned (.bool (z0k gs x))∧Below w.heap.size w w':=by
 obtain ⟨_,_,_,hlen⟩:=At.form h;unfold maxLen at hlen;have K0:=Hd (zb (Below.refl w.heap.size w) (.cells #[.int .i64 x.row,.int .i64 x.col,.int .i64 x.rows,.int .i64 x.cols,.int .i64 x.ins] 115));have H:=Hd h;have HG:=Hd hgs;have HXS:=Hd hxs;have hmx:Try.prog.follows .mixedOrders=true:=(by kernel_rfl);clear h hgs hxs;go_enter Try.func87,Try.ntmps87;go_wp2_with fail
 go_loopw [5] (fun i W=>∃ k:Nat,k≤gs.length∧i=.int .i64 k∧Hid (∀ j,j < k→zZ (gs.getD j dG) x=false)∧Hid (Below w.heap.size w W)∧Hid (W.heap[w.heap.size]?=some (.cells #[.int .i64 x.row,.int .i64 x.col,.int .i64 x.rows,.int .i64 x.cols,.int .i64 x.ins] 115))) (fun i _=>gs.length - (intOf i).toNat)
 case atStart=>exact ⟨0,Nat.zero_le _,rfl,fun j hj=>absurd hj (Nat.not_lt_zero _),K0.out,zf _ _⟩
 case round =>
  obtain ⟨k,hk,rfl,HA,HB,HX⟩:=hrel;have hz:w.heap.size < wr.heap.size:=(bL HX.out);by_cases hlt:k < gs.length
  ·have hlt':(k:Int) < (gs.length:Int):=(by omega);have h0':(0:Int)≤(k:Int):=(by omega);obtain ⟨q,off,cap',e',hc1,hc2,hbl,hx,hs⟩:=At.get (H.out.kept HB.out) hlt;simp only [Value.slice.injEq,true_and] at e';obtain ⟨rfl,rfl⟩:=e';have HH:Hid (zZ (gs.getD k dG) x=true→z0k gs x=false):=fun hp=>z5B hlt hp
   have HN:Hid (zZ (gs.getD k dG) x=false→∀ j,j < k+1→zZ (gs.getD j dG) x=false):=fun hp j hj=>by
    rcases Nat.lt_or_eq_of_le (Nat.lt_succ_iff.1 hj) with h1 | rfl
    ·exact HA.out j h1
    ·exact hp
   have HS:Sm (gs.getD k dG):=by
    have e:gs.getD k dG=gs[k]:=(by simp [List.getD,hlt]);rw [e];exact HG.out _ (List.getElem_mem hlt)
   have HL:=Hd (z4J (gs.getD k dG) x HS HXS.out);clear HS hs;generalize gs.getD k dG=y at hx HH HN HL;obtain ⟨x0,x1,x2,x3,x4⟩:=hx;have y0:=zj (a:=⟨q,off+k * 5,none⟩) hbl x0;have y1:=zj (a:=⟨q,off+k * 5+1,none⟩) hbl x1;have y2:=zj (a:=⟨q,off+k * 5+2,none⟩) hbl x2;have y3:=zj (a:=⟨q,off+k * 5+3,none⟩) hbl x3;have y4:=zj (a:=⟨q,off+k * 5+4,none⟩) hbl x4;have b0:=zj (a:=⟨w.heap.size,0,none⟩) (v:=.int .i64 x.row) hz (zc HX.out);have b1:=zj (a:=⟨w.heap.size,1,none⟩) (v:=.int .i64 x.col) hz (zc HX.out);have b2:=zj (a:=⟨w.heap.size,2,none⟩) (v:=.int .i64 x.rows) hz (zc HX.out);have b3:=zj (a:=⟨w.heap.size,3,none⟩) (v:=.int .i64 x.cols) hz (zc HX.out);have b4:=zj (a:=⟨w.heap.size,4,none⟩) (v:=.int .i64 x.ins) hz (zc HX.out);unfold maxLen at hc2;clear x0 x1 x2 x3 x4;go_wp2_with fail
   have hne:=z1X wr;refine z0G hmx (by kernel_rfl) ?_;repeat (go_big_quiet_step (refine z2K (HL.out _)))
   refine wpQuiet_nil ?_;intro _ hw';obtain ⟨⟨W7,hW7⟩,hw''⟩:=hw';subst hw'';have HB7:=Hd (ze HB.out hW7);have HX7:=Hd ((hW7.block w.heap.size hz).trans HX.out);clear y0 y1 y2 y3 y4 b0 b1 b2 b3 b4 hW7
   cases h1:zZ y x with
   | false =>
    have HF:=Hd (HN.out h1);clear HH HN HA h1;go_wp2;go_roundw
    case rel=>exact ⟨k+1,by omega,by go_num,HF,HB7,HX7⟩
    case measure=>simp [intOf];omega
   | true =>
    have HF:=Hd (HH.out h1);clear HH HN HA h1;go_wp2;go_ret;exact ⟨zr HF.out.symm,HB7.out⟩
  ·obtain rfl:k=gs.length:=by omega
   have HF:=Hd (z5C HA.out);clear HA;go_wp2;go_ret;exact ⟨zr HF.out.symm,HB.out⟩
end
section
open Go.RowKit
theorem z3T (a b:Int) (w:World):Calls Try.prog 85 #[.int .i64 a,.int .i64 b] w fun e w'=>e=.returned (.int .i64 (max a b))∧w'=w:=by
 by_cases h:b < a
 ·have HE:Hid (max a b=a):=Hd (by omega);go_enter Try.func85,Try.ntmps85;go_wp2;go_ret;exact ⟨z2g HE.out.symm,rfl⟩
 ·have HE:Hid (max a b=b):=Hd (by omega);go_enter Try.func85,Try.ntmps85;go_wp2;go_ret;exact ⟨z2g HE.out.symm,rfl⟩
theorem z60 (ac ar:Option Addr) (cc cr:Nat) (t:T) (hb:t.rows.length≤8∧0≤t.foot∧t.foot≤t.rows.length) (r:Nat) (w:World) :
  Calls Try.prog 86 #[.agg #[.slice ac t.cols.length cc,.int .i64 t.head,.int .i64 t.foot,.slice ar t.rows.length cr,.int .i64 t.gap],.int .i64 (r:Int)] w fun e w'=>e=.returned (.int .i64 (zt t r))∧Below w.heap.size w w':=by
 obtain ⟨h1,h2,h3⟩:=hb;by_cases c1:(r:Int) < t.head
 ·have HE:Hid (zt t r=t.head):=Hd (by unfold zt;rw [if_pos c1]);go_enter Try.func86,Try.ntmps86;go_wp2;go_ret;exact ⟨z2g HE.out.symm,by repeat (first | exact Below.refl _ _ | apply zb)⟩
 ·by_cases c2:(t.rows.length:Int) - t.foot≤r
  ·have HE:Hid (zt t r=t.rows.length):=Hd (by unfold zt;rw [if_neg c1,if_pos c2]);go_enter Try.func86,Try.ntmps86;go_wp2;go_ret;exact ⟨z2g HE.out.symm,by repeat (first | exact Below.refl _ _ | apply zb)⟩
  ·have HE:Hid (zt t r=t.rows.length - t.foot):=Hd (by unfold zt;rw [if_neg c1,if_neg c2]);go_enter Try.func86,Try.ntmps86;go_wp2;go_ret;exact ⟨z2g HE.out.symm,by repeat (first | exact Below.refl _ _ | apply zb)⟩
end
end Go.Proofs.Ytggmjiddadjilam
