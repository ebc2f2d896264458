/-
  PROVED HERE: the program's layOut, BrdAcross and BrdBeside at a drawn table; nothing that was in memory is turned. Also: 3 more texts of the same proof.
-/
import Derived.Test.YtggmjiddadjilagB20
import Derived.Test.YtggmjiddadjilagB14
set_option maxRecDepth 1000000
set_option maxHeartbeats 40000000
namespace Go.Proofs.Ytggmjiddadjilag
section
open Go.RowKit
def st8 (w:World) (g:Nat) (y0 y1 y2 y3 y4 y5 y6 y7:Value):World:=(((((((w.setCell ⟨g,0,none⟩ y0).setCell ⟨g,1,none⟩ y1).setCell ⟨g,2,none⟩ y2).setCell ⟨g,3,none⟩ y3).setCell ⟨g,4,none⟩ y4).setCell ⟨g,5,none⟩ y5).setCell ⟨g,6,none⟩ y6).setCell ⟨g,7,none⟩ y7
theorem z4v (w:World) (g:Nat) (y0 y1 y2 y3 y4 y5 y6 y7:Value):Bk g w (st8 w g y0 y1 y2 y3 y4 y5 y6 y7) :=
 (Bk.set (Bk.set (Bk.set (Bk.set (Bk.set (Bk.set (Bk.set (Bk.set (Bk.refl g w) (p:=⟨g,0,none⟩) (.inl rfl) y0) (p:=⟨g,1,none⟩) (.inl rfl) y1) (p:=⟨g,2,none⟩) (.inl rfl) y2) (p:=⟨g,3,none⟩) (.inl rfl) y3) (p:=⟨g,4,none⟩) (.inl rfl) y4) (p:=⟨g,5,none⟩) (.inl rfl) y5) (p:=⟨g,6,none⟩) (.inl rfl) y6) (p:=⟨g,7,none⟩) (.inl rfl) y7)
theorem z6Z {w:World} {g:Nat} {a:Array Value} {t:TypeId} (h:w.heap[g]?=some (.cells a t)):w.frozen? ⟨g,0,none⟩=false∧w.frozen? ⟨g,1,none⟩=false∧w.frozen? ⟨g,2,none⟩=false∧w.frozen? ⟨g,3,none⟩=false∧w.frozen? ⟨g,4,none⟩=false∧w.frozen? ⟨g,5,none⟩=false∧w.frozen? ⟨g,6,none⟩=false∧w.frozen? ⟨g,7,none⟩=false:=⟨zo h,zo h,zo h,zo h,zo h,zo h,zo h,zo h⟩
theorem z01.sinceB {w w':World} {z:Nat} {v:Value} {gs:List GC} (h:z01 w z v gs) (hs:w.heap.size≤w'.heap.size) (hb:∀ k,z≤k→k < w.heap.size→w'.heap[k]?=w.heap[k]?):z01 w' z v gs :=
 At.mono h hs (Nat.le_refl _) (fun _ b _ _ hbl hz he=>by
  have hc:∀ q,w'.cell? ⟨b,q,none⟩=w.cell? ⟨b,q,none⟩:=fun q=>World.cell?_of_block (w:=w) (a:=⟨b,q,none⟩) (hb b hz hbl);refine ⟨?_,he.2⟩;have h1:=he.1;unfold GIs at h1 ⊢;simp only [hc];exact h1)
theorem z2u (ac ar:Option Addr) (cc cr:Nat) (t:T) (hD:z0w t) (w:World) {z:Nat} (hC:zV w z (.slice ac t.cols.length cc) t.cols) (hW:zD w z (.slice ar t.rows.length cr) t.rows) :
  Calls Try.prog 50 #[.agg #[.slice ac t.cols.length cc,.int .i64 t.head,.int .i64 t.foot,.slice ar t.rows.length cr,.int .i64 t.gap]] w fun e w'=>∃ ag cg,e=.returned (.agg #[.slice ac t.cols.length cc,.int .i64 t.head,.int .i64 t.foot,.slice ar t.rows.length cr,.int .i64 t.gap,.int .i64 (gOf t).rows,.int .i64 (gOf t).cols,.slice ag (gOf t).cells.length cg])∧z01 w' w.heap.size (.slice ag (gOf t).cells.length cg) (gOf t).cells∧Below w.heap.size w w':=by
 obtain ⟨W0,hW0⟩:∃ W0,(w.alloc (.cells #[.slice ac t.cols.length cc,.int .i64 t.head,.int .i64 t.foot,.slice ar t.rows.length cr,.int .i64 t.gap] 49)).alloc (.cells #[.slice none 0 0,.int .i64 0,.int .i64 0,.slice none 0 0,.int .i64 0,.int .i64 0,.int .i64 0,.slice none 0 0] 77)=W0:=⟨_,rfl⟩;have K0:Below w.heap.size w W0:=(by rw [← hW0];exact zb (zb (Below.refl _ _) _) _);have hz0:w.heap.size+2≤W0.heap.size:=(by rw [← hW0];simp);have X0:W0.heap[w.heap.size]?=some (.cells #[.slice ac t.cols.length cc,.int .i64 t.head,.int .i64 t.foot,.slice ar t.rows.length cr,.int .i64 t.gap] 49):=(by rw [← hW0];exact z0d (z0j _ _) _);have X1:W0.heap[w.heap.size+1]?=some (.cells #[.slice none 0 0,.int .i64 0,.int .i64 0,.slice none 0 0,.int .i64 0,.int .i64 0,.int .i64 0,.slice none 0 0] 77):=(by rw [← hW0];exact z13 _ _ _);have HX:=Hd (And.intro X0 X1);have HK0:=Hd K0;have HM:=Hd (And.intro (hC.kept K0) (hW.kept K0));have HMd:=Hd (And.intro (HM.out.1.kept (z1y (Below.refl _ _))) (HM.out.2.kept (z1y (Below.refl _ _))));have HKd:=Hd (z1y (Below.refl W0.heap.size W0));obtain ⟨⟨o0,o1,o2,o3,o4⟩,_⟩:=z02 X0;have l0:=(bL X0);clear hC hW K0 X0 X1;go_enter Try.func50,Try.ntmps50;go_upto_region 1 with fail
 clear hW0
 go_region_with (first
  | (go_at_call 28;refine (z3V ac ar cc cr t hD _ HMd.out.1 HMd.out.2).mono ?_;rintro e w1 ⟨vg,rfl,hO,hb1⟩;obtain ⟨ag,cg,rfl⟩:=z2G hO;have HG:=Hd (hO.at (z4T hD));have hb1':=zc HKd.out hb1;have hz1:=hb1'.size;obtain ⟨⟨q0,q1,q2,q3,q4⟩,_⟩:=z02 ((hb1'.block _ l0).trans HX.out.1);have hX1:=(hb1'.block (w.heap.size+1) (by omega)).trans HX.out.2;obtain ⟨⟨d0,d1,d2,d3,d4,d5,d6,d7⟩,_⟩:=z1h hX1;obtain ⟨f0,f1,f2,f3,f4,f5,f6,f7⟩:=z6Z hX1;have HB1:=Hd hb1';clear hO hb1 hb1' hX1))
 all_goals
  have HK1:=Hd (zc HK0.out HB1.out);have HBl:=Hd (HK1.out.trans ((z4v w1 (w.heap.size+1) (.slice ac t.cols.length cc) (.int .i64 t.head) (.int .i64 t.foot) (.slice ar t.rows.length cr) (.int .i64 t.gap) (.int .i64 (gOf t).rows) (.int .i64 (gOf t).cols) (.slice ag (gOf t).cells.length cg)).below HK1.out.size (by omega)));have HG2:=Hd ((HG.out.base (z':=w.heap.size+2) (by have:=HKd.out.size;omega)).sinceB (z4v w1 (w.heap.size+1) (.slice ac t.cols.length cc) (.int .i64 t.head) (.int .i64 t.foot) (.slice ar t.rows.length cr) (.int .i64 t.gap) (.int .i64 (gOf t).rows) (.int .i64 (gOf t).cols) (.slice ag (gOf t).cells.length cg)).size (fun k h1 h2=>(z4v w1 (w.heap.size+1) (.slice ac t.cols.length cc) (.int .i64 t.head) (.int .i64 t.foot) (.slice ar t.rows.length cr) (.int .i64 t.gap) (.int .i64 (gOf t).rows) (.int .i64 (gOf t).cols) (.slice ag (gOf t).cells.length cg)).block k h2 (by omega)));clear HG HK1;go_wp2;exact bodyPost_ret (v:=.agg #[.slice ac t.cols.length cc,.int .i64 t.head,.int .i64 t.foot,.slice ar t.rows.length cr,.int .i64 t.gap,.int .i64 (gOf t).rows,.int .i64 (gOf t).cols,.slice ag (gOf t).cells.length cg]) (by simp [results,Try.results50,go_sem,d0,d1,d2,d3,d4,d5,d6,d7]) rfl ⟨ag,cg,rfl,HG2.out.base (by omega),HBl.out⟩
theorem z45 (ac ar:Option Addr) (cc cr:Nat) (t:T) (hD:z0w t) (r c:Int) (hr:-1000≤r∧r≤1000) (hc:-1000≤c∧c≤1000) (w:World) {z:Nat} (hC:zV w z (.slice ac t.cols.length cc) t.cols) (hW:zD w z (.slice ar t.rows.length cr) t.rows) :
  Calls Try.prog 23 #[.agg #[.slice ac t.cols.length cc,.int .i64 t.head,.int .i64 t.foot,.slice ar t.rows.length cr,.int .i64 t.gap],.int .i64 r,.int .i64 c] w fun e w'=>e=.returned (.agg #[.int .i64 (zi t r c).s,.int .i64 (zi t r c).w,.int .i64 (zi t r c).c])∧Below w.heap.size w w':=by
 obtain ⟨W0,hW0⟩:∃ W0,(w.alloc (.cells #[.slice ac t.cols.length cc,.int .i64 t.head,.int .i64 t.foot,.slice ar t.rows.length cr,.int .i64 t.gap] 49)).alloc (.cells #[.int .i64 0,.int .i64 0,.int .i64 0] 42)=W0:=⟨_,rfl⟩;have K0:Below w.heap.size w W0:=(by rw [← hW0];exact zb (zb (Below.refl _ _) _) _);have X0:W0.heap[w.heap.size]?=some (.cells #[.slice ac t.cols.length cc,.int .i64 t.head,.int .i64 t.foot,.slice ar t.rows.length cr,.int .i64 t.gap] 49):=(by rw [← hW0];exact z0d (z0j _ _) _);have X1:W0.heap[w.heap.size+1]?=some (.cells #[.int .i64 0,.int .i64 0,.int .i64 0] 42):=(by rw [← hW0];exact z13 _ _ _);have HX:=Hd X1;have HK0:=Hd K0;have HM:=Hd (And.intro (hC.kept K0) (hW.kept K0));obtain ⟨⟨o0,o1,o2,o3,o4⟩,_⟩:=z02 X0;clear hC hW K0 X0 X1;go_enter Try.func23,Try.ntmps23;go_upto_region 1 with fail
 clear hW0;go_wp2_with fail
 refine (z2u ac ar cc cr t hD _ HM.out.1 HM.out.2).mono ?_;rintro e w1 ⟨ag,cg,rfl,hG,hb1⟩;have HG:=Hd hG;have HW1:=Hd (HM.out.2.kept hb1);have hl1:w.heap.size+1 < W0.heap.size:=(bL HX.out);have HX1:=Hd ((hb1.block _ hl1).trans HX.out);have HK1:=Hd (zc HK0.out hb1);have hl2:=Nat.lt_of_lt_of_le hl1 hb1.size;clear hG hb1 o0 o1 o2 o3 o4 HK0 HX HM hl1;go_wp2_with fail
 refine (z3v ac ar ag cc cr cg t hD r c hr hc _ HW1.out HG.out).mono ?_;rintro e w3 ⟨rfl,hb3⟩;have X3:=(hb3.block (w.heap.size+1) hl2).trans HX1.out;obtain ⟨⟨d0,d1,d2⟩,g0,g1,g2⟩:=zw X3;have HK3:=Hd (zc HK1.out hb3);have HBl:=Hd (HK3.out.trans ((z04 w3 (w.heap.size+1) (.int .i64 (zi t r c).s) (.int .i64 (zi t r c).w) (.int .i64 (zi t r c).c)).below HK3.out.size (by omega)));clear hb3 X3 HK3 HK1 HX1 HG HW1 hl2;go_wp2;exact bodyPost_ret (v:=.agg #[.int .i64 (zi t r c).s,.int .i64 (zi t r c).w,.int .i64 (zi t r c).c]) (by simp [results,Try.results23,go_sem,d0,d1,d2]) rfl ⟨rfl,HBl.out⟩
theorem z46 (ac ar:Option Addr) (cc cr:Nat) (t:T) (hD:z0w t) (r c:Int) (hr:-1000≤r∧r≤1000) (hc:-1000≤c∧c≤1000) (w:World) {z:Nat} (hC:zV w z (.slice ac t.cols.length cc) t.cols) (hW:zD w z (.slice ar t.rows.length cr) t.rows) :
  Calls Try.prog 24 #[.agg #[.slice ac t.cols.length cc,.int .i64 t.head,.int .i64 t.foot,.slice ar t.rows.length cr,.int .i64 t.gap],.int .i64 r,.int .i64 c] w fun e w'=>e=.returned (.agg #[.int .i64 (zj t r c).s,.int .i64 (zj t r c).w,.int .i64 (zj t r c).c])∧Below w.heap.size w w':=by
 obtain ⟨W0,hW0⟩:∃ W0,(w.alloc (.cells #[.slice ac t.cols.length cc,.int .i64 t.head,.int .i64 t.foot,.slice ar t.rows.length cr,.int .i64 t.gap] 49)).alloc (.cells #[.int .i64 0,.int .i64 0,.int .i64 0] 42)=W0:=⟨_,rfl⟩;have K0:Below w.heap.size w W0:=(by rw [← hW0];exact zb (zb (Below.refl _ _) _) _);have X0:W0.heap[w.heap.size]?=some (.cells #[.slice ac t.cols.length cc,.int .i64 t.head,.int .i64 t.foot,.slice ar t.rows.length cr,.int .i64 t.gap] 49):=(by rw [← hW0];exact z0d (z0j _ _) _);have X1:W0.heap[w.heap.size+1]?=some (.cells #[.int .i64 0,.int .i64 0,.int .i64 0] 42):=(by rw [← hW0];exact z13 _ _ _);have HX:=Hd X1;have HK0:=Hd K0;have HM:=Hd (And.intro (hC.kept K0) (hW.kept K0));obtain ⟨⟨o0,o1,o2,o3,o4⟩,_⟩:=z02 X0;clear hC hW K0 X0 X1;go_enter Try.func24,Try.ntmps24;go_upto_region 1 with fail
 clear hW0;go_wp2_with fail
 refine (z2u ac ar cc cr t hD _ HM.out.1 HM.out.2).mono ?_;rintro e w1 ⟨ag,cg,rfl,hG,hb1⟩;have HG:=Hd hG;have HW1:=Hd (HM.out.2.kept hb1);have hl1:w.heap.size+1 < W0.heap.size:=(bL HX.out);have HX1:=Hd ((hb1.block _ hl1).trans HX.out);have HK1:=Hd (zc HK0.out hb1);have hl2:=Nat.lt_of_lt_of_le hl1 hb1.size;clear hG hb1 o0 o1 o2 o3 o4 HK0 HX HM hl1;go_wp2_with fail
 refine (z3w ac ar ag cc cr cg t hD r c hr hc _ HW1.out HG.out).mono ?_;rintro e w3 ⟨rfl,hb3⟩;have X3:=(hb3.block (w.heap.size+1) hl2).trans HX1.out;obtain ⟨⟨d0,d1,d2⟩,g0,g1,g2⟩:=zw X3;have HK3:=Hd (zc HK1.out hb3);have HBl:=Hd (HK3.out.trans ((z04 w3 (w.heap.size+1) (.int .i64 (zj t r c).s) (.int .i64 (zj t r c).w) (.int .i64 (zj t r c).c)).below HK3.out.size (by omega)));clear hb3 X3 HK3 HK1 HX1 HG HW1 hl2;go_wp2;exact bodyPost_ret (v:=.agg #[.int .i64 (zj t r c).s,.int .i64 (zj t r c).w,.int .i64 (zj t r c).c]) (by simp [results,Try.results24,go_sem,d0,d1,d2]) rfl ⟨rfl,HBl.out⟩
end
section
open Go.RowKit Go.BigFrame
theorem TaGs.kept {w w':World} {z zg:Nat} {ac ar:Option Addr} {cc cr:Nat} {t:T} {vg:Value} {gs:List GC} (h:TA w z ac ar cc cr t∧z01 w zg vg gs) (hb:Below w.heap.size w w'):TA w' z ac ar cc cr t∧z01 w' zg vg gs:=⟨TA.kept h.1 hb,z01.kept h.2 hb⟩
theorem z3y (ac ar:Option Addr) (cc cr:Nat) (t:T) (hD:z0w t) (w:World) {z:Nat} (hC:zV w z (.slice ac t.cols.length cc) t.cols) (hW:zD w z (.slice ar t.rows.length cr) t.rows) :
  Calls Try.prog 32 #[.agg #[.slice ac t.cols.length cc,.int .i64 t.head,.int .i64 t.foot,.slice ar t.rows.length cr,.int .i64 t.gap]] w fun e w'=>∃ v,e=.returned v∧z0u w' w.heap.size v (z0e t)∧Below w.heap.size w w':=by
 obtain ⟨i0,hi0,hz0,hz1,hz2⟩:=info_parts z3r;obtain ⟨R,C,hgr,hgc,hR8,hC88⟩:=z2t hD;have HLy:=Hd (fun W (h:TA W z ac ar cc cr t)=>z2u ac ar cc cr t hD W h.1 h.2);have KA:=Hd (fun ag cg zg (r c:Int) (hr:-1000≤r∧r≤1000) (hc:-1000≤c∧c≤1000) W (h:TA W z ac ar cc cr t∧z01 W zg (.slice ag (gOf t).cells.length cg) (gOf t).cells)=>z3v ac ar ag cc cr cg t hD r c hr hc W h.1.2 h.2);have KB:=Hd (fun ag cg zg (r c:Int) (hr:-1000≤r∧r≤1000) (hc:-1000≤c∧c≤1000) W (h:TA W z ac ar cc cr t∧z01 W zg (.slice ag (gOf t).cells.length cg) (gOf t).cells)=>z3w ac ar ag cc cr cg t hD r c hr hc W h.1.2 h.2)
 have HAll:Hid (z0e t=zJ (zi t) C (R+1) ++ zJ (zj t) (C+1) R):=by
  show _=_;rw [z0e,hgr,hgc,Int.toNat_natCast,Int.toNat_natCast]
 rw [hgr,hgc] at HLy KA KB;generalize (gOf t).cells=gs at HLy KA KB;generalize zi t=fa at KA HAll;generalize zj t=fb at KB HAll
 have HPl:Hid ((zJ fa C (R+1)).length≤2000):=by
  show _≤_;rw [z0Z];have:=Nat.mul_le_mul (show R+1≤9 by omega) (show C≤88 by omega);omega
 have HK0:=Hd (zb (Below.refl w.heap.size w) (.cells #[.slice ac t.cols.length cc,.int .i64 t.head,.int .i64 t.foot,.slice ar t.rows.length cr,.int .i64 t.gap] 49));have HX0:=Hd (zh w (.cells #[.slice ac t.cols.length cc,.int .i64 t.head,.int .i64 t.foot,.slice ar t.rows.length cr,.int .i64 t.gap] 49));have HT0:Hid (TA (w.alloc (.cells #[.slice ac t.cols.length cc,.int .i64 t.head,.int .i64 t.foot,.slice ar t.rows.length cr,.int .i64 t.gap] 49)) z ac ar cc cr t):=TA.kept ⟨hC,hW⟩ HK0.out;clear hC hW hD hgr hgc;go_enter Try.func32,Try.ntmps32;go_upto_region 1 with fail
 generalize w.alloc (.cells #[.slice ac t.cols.length cc,.int .i64 t.head,.int .i64 t.foot,.slice ar t.rows.length cr,.int .i64 t.gap] 49)=W0 at HK0 HX0 HT0 ⊢;obtain ⟨b0,b1,b2,b3,b4⟩:=z0z HX0.out;go_wp2_with fail
 refine (HLy.out _ HT0.out).mono ?_;rintro e W2 ⟨ag,cg,rfl,hG,hb2⟩;have HKL:=zb (Below.refl W2.heap.size W2) (.cells #[.slice ac t.cols.length cc,.int .i64 t.head,.int .i64 t.foot,.slice ar t.rows.length cr,.int .i64 t.gap,.int .i64 (R:Int),.int .i64 (C:Int),.slice ag gs.length cg] 77);have HWg:Hid (TA (W2.alloc (.cells #[.slice ac t.cols.length cc,.int .i64 t.head,.int .i64 t.foot,.slice ar t.rows.length cr,.int .i64 t.gap,.int .i64 (R:Int),.int .i64 (C:Int),.slice ag gs.length cg] 77)) z ac ar cc cr t∧z01 (W2.alloc (.cells #[.slice ac t.cols.length cc,.int .i64 t.head,.int .i64 t.foot,.slice ar t.rows.length cr,.int .i64 t.gap,.int .i64 (R:Int),.int .i64 (C:Int),.slice ag gs.length cg] 77)) W0.heap.size (.slice ag gs.length cg) gs):=⟨TA.kept (TA.kept HT0.out hb2) HKL,z01.kept hG HKL⟩;have HL:=Hd (zh W2 (.cells #[.slice ac t.cols.length cc,.int .i64 t.head,.int .i64 t.foot,.slice ar t.rows.length cr,.int .i64 t.gap,.int .i64 (R:Int),.int .i64 (C:Int),.slice ag gs.length cg] 77));have HK3:=Hd (zb (zc HK0.out hb2) (.cells #[.slice ac t.cols.length cc,.int .i64 t.head,.int .i64 t.foot,.slice ar t.rows.length cr,.int .i64 t.gap,.int .i64 (R:Int),.int .i64 (C:Int),.slice ag gs.length cg] 77));have hlb:W2.heap.size < (W2.alloc (.cells #[.slice ac t.cols.length cc,.int .i64 t.head,.int .i64 t.foot,.slice ar t.rows.length cr,.int .i64 t.gap,.int .i64 (R:Int),.int .i64 (C:Int),.slice ag gs.length cg] 77)).heap.size:=(by simp);have KA:=Hd (fun W (h:TA W z ac ar cc cr t∧z01 W W0.heap.size (.slice ag gs.length cg) gs) (r c:Int) (hr:-1000≤r∧r≤1000) (hc:-1000≤c∧c≤1000)=>KA.out ag cg W0.heap.size r c hr hc W h);have KB:=Hd (fun W (h:TA W z ac ar cc cr t∧z01 W W0.heap.size (.slice ag gs.length cg) gs) (r c:Int) (hr:-1000≤r∧r≤1000) (hc:-1000≤c∧c≤1000)=>KB.out ag cg W0.heap.size r c hr hc W h);clear HLy hb2 hG HKL b0 b1 b2 b3 b4 HT0 HX0 HK0;go_upto_region 2 with fail
 generalize W2.alloc (.cells #[.slice ac t.cols.length cc,.int .i64 t.head,.int .i64 t.foot,.slice ar t.rows.length cr,.int .i64 t.gap,.int .i64 (R:Int),.int .i64 (C:Int),.slice ag gs.length cg] 77)=W3 at HWg HL HK3 hlb ⊢;generalize W2.heap.size=lb at HL hlb ⊢;obtain ⟨⟨o0,o1,o2,o3,o4,o5,o6,o7⟩,_⟩:=z1h HL.out;have hwR:IntKind.i64.wrap ((R:Int)+1)=(R:Int)+1:=(by rw [IntKind.wrap_i64];omega);have hwC:IntKind.i64.wrap ((C:Int)+1)=(C:Int)+1:=(by rw [IntKind.wrap_i64];omega);have HO0:Hid (z0h W3 W3.heap.size (.slice none 0 0) (zJ fa C 0)):=World.ownsRow_nil _ _ _ _;have hz3:=HK3.out.size;go_wp2_with fail
 clear o0 o1 o2 o3 o4 o5 o6 o7;go_loopw [4,15] (fun o i W=>∃ r:Nat,i=.int .i64 (r:Int)∧r≤R+1∧Hid (z0h W W3.heap.size o (zJ fa C r))∧Hid (Below W3.heap.size W3 W)) (fun _ i _=>R+1 - (intOf i).toNat)
 case atStart=>exact ⟨0,rfl,Nat.zero_le _,HO0,Below.refl _ _⟩
 case round =>
  obtain ⟨r,rfl,hr,HO,HBr⟩:=hrel;by_cases hrR:r < R+1
  case neg =>
   have hrn:r=R+1:=(by omega)
   have HOp:Hid (z0h wr W3.heap.size u4 (zJ fa C (R+1))):=by
    rw [hrn] at HO;exact HO
   have HBp:=HBr;generalize zJ fa C (R+1)=P at HOp HAll HPl;have hPl:P.length≤2000:=HPl.out
   have HOp:Hid (z0h wr W3.heap.size u4 (P ++ zJ fb (C+1) 0)):=by
    rw [show zJ fb (C+1) 0=[] from rfl,List.append_nil];exact HOp
   have hrf:¬ (r:Int) < (R:Int)+1:=(by omega);have hX:=(HBr.out.block lb hlb).trans HL.out;obtain ⟨⟨o0,o1,o2,o3,o4,o5,o6,o7⟩,_⟩:=z1h hX;clear HO;go_wp2_with fail
   clear o0 o1 o2 o3 o4 o5 o6 o7 hX;go_loopw [4,36] (fun o i W=>∃ r:Nat,i=.int .i64 (r:Int)∧r≤R∧Hid (z0h W W3.heap.size o (P ++ zJ fb (C+1) r))∧Hid (Below W3.heap.size W3 W)) (fun _ i _=>R - (intOf i).toNat)
   case atStart=>exact ⟨0,rfl,Nat.zero_le _,HOp,HBp⟩
   case round =>
    obtain ⟨r,rfl,hr,HO,HBr⟩:=hrel;by_cases hrR:r < R
    case neg =>
     have hrn:r=R:=(by omega);have hrf:¬ (r:Int) < (R:Int):=(by omega)
     have HF:Hid (z0u wr w.heap.size u4 (z0e t)):=by
      rw [hrn] at HO;show z0u _ _ _ _;rw [HAll.out];exact (z15 HO.out).base (by omega)
     have HK:=Hd (HK3.out.trans (HBr.out.mono (by omega)));go_wp2;go_ret;exact ⟨_,rfl,HF.out,HK.out⟩
    case pos =>
    have hX:=(HBr.out.block lb hlb).trans HL.out;obtain ⟨⟨o0,o1,o2,o3,o4,o5,o6,o7⟩,_⟩:=z1h hX;have hrR':(r:Int) < (R:Int):=(by omega);go_wp2_with fail
    go_loopw [4,43] (fun o i W=>∃ c:Nat,i=.int .i64 (c:Int)∧c≤C+1∧Hid (z0h W W3.heap.size o (P ++ upF fb (C+1) r c))∧Hid (Below W3.heap.size W3 W)) (fun _ i _=>C+1 - (intOf i).toNat)
    case atStart=>exact ⟨0,rfl,Nat.zero_le _,by rw [z2q];exact HO,HBr⟩
    case round =>
     obtain ⟨c,rfl,hc,HOc,HBc⟩:=hrel;by_cases hcC:c < C+1
     case neg =>
      have hcn:c=C+1:=(by omega);have hcf:¬ (c:Int) < (C:Int)+1:=(by omega)
      have HOd:Hid (z0h wr W3.heap.size u4 (P ++ zJ fb (C+1) (r+1))):=by
       rw [hcn,z2r] at HOc;exact HOc
      clear o0 o1 o2 o3 o4 o5 o6 o7 hX;go_wp2;go_roundw
      case rel=>exact ⟨r+1,by go_num,by omega,HOd,HBc⟩
      case measure=>simp [intOf];omega
     case pos =>
      have hcC':(c:Int) < (C+1:Int):=(by omega);clear o0 o1 o2 o3 o4 o5 o6 o7 hX;have hX:=(HBc.out.block lb hlb).trans HL.out;obtain ⟨⟨o0,o1,o2,o3,o4,o5,o6,o7⟩,_⟩:=z1h hX
      have hlen:(P ++ upF fb (C+1) r c).length≤5000:=by
       rw [List.length_append,z2Q];have:=Nat.mul_le_mul (show r≤9 by omega) (show C+1≤89 by omega);omega
      go_wp2_with fail
      refine (KB.out _ (TaGs.kept HWg.out HBc.out) (r:Int) (c:Int) (by omega) (by omega)).mono ?_;rintro e W5 ⟨rfl,hb5⟩;have hO5:=z0o HOc.out hb5;have hB5:=HBc.out.size;have hz5:=hb5.size;have HN:=Hd (z2s fb (C+1) r c);generalize fb (r:Int) (c:Int)=x at HN ⊢;generalize hU:P ++ upF fb (C+1) r c=U at hO5 hlen ⊢;have HU:=Hd hU;clear hU o0 o1 o2 o3 o4 o5 o6 o7 hX HOc;go_wp2_with (at_builtin;refine wpList_append_own _ rfl _ _ 39 rfl W3.heap.size 42 i0 _ 3 24 Try.underlying39 hi0 hz0 hz1 hz2 rfl (by decide) _ _ _ rfl (hO5.alloc _) ⟨W5.heap.size,0,none⟩ 1 1 [.int .i64 x.s,.int .i64 x.w,.int .i64 x.c] rfl rfl ?c1 ?c2 ?c3 ?c4 ?c5 ?_)
      case c1=>exact z0a (zh W5 _)
      case c2=>simp [Value.oneCell']
      case c3=>unfold maxLen;omega
      case c4=>omega
      case c5=>simp;omega
      intro v9 W9 hown9 hg9 _;have HO9:Hid (z0h W9 W3.heap.size v9 (U ++ [x])):=z25 hown9;have HB9:=Hd ((zb (zc HBc.out hb5) (.cells #[.int .i64 x.s,.int .i64 x.w,.int .i64 x.c] 42)).grown hg9 (by simp;omega) (fun b hb=>(World.ownsRow.lt hO5 b hb).1));obtain ⟨a9,c9,rfl,_⟩:=zz HO9.out;clear hown9 hg9 hO5 hb5
      have HO10:Hid (z0h W9 W3.heap.size (.slice a9 (U ++ [x]).length c9) (P ++ upF fb (C+1) r (c+1))):=by
       show z0h _ _ _ _;rw [HN.out,← List.append_assoc,HU.out];exact HO9.out
      go_wp2;go_roundw
      case rel=>exact ⟨c+1,by go_num,by omega,HO10,HB9⟩
      case measure=>simp [intOf];omega
  case pos =>
  have hX:=(HBr.out.block lb hlb).trans HL.out;obtain ⟨⟨o0,o1,o2,o3,o4,o5,o6,o7⟩,_⟩:=z1h hX;have hrR':(r:Int) < (R+1:Int):=(by omega);go_wp2_with fail
  go_loopw [4,21] (fun o i W=>∃ c:Nat,i=.int .i64 (c:Int)∧c≤C∧Hid (z0h W W3.heap.size o (upF fa C r c))∧Hid (Below W3.heap.size W3 W)) (fun _ i _=>C - (intOf i).toNat)
  case atStart=>exact ⟨0,rfl,Nat.zero_le _,by rw [z2q];exact HO,HBr⟩
  case round =>
   obtain ⟨c,rfl,hc,HOc,HBc⟩:=hrel;by_cases hcC:c < C
   case neg =>
    have hcn:c=C:=(by omega);have hcf:¬ (c:Int) < (C:Int):=(by omega)
    have HOd:Hid (z0h wr W3.heap.size u4 (zJ fa C (r+1))):=by
     rw [hcn,z2r] at HOc;exact HOc
    clear o0 o1 o2 o3 o4 o5 o6 o7 hX;go_wp2;go_roundw
    case rel=>exact ⟨r+1,by go_num,by omega,HOd,HBc⟩
    case measure=>simp [intOf];omega
   case pos =>
    have hcC':(c:Int) < (C:Int):=(by omega);clear o0 o1 o2 o3 o4 o5 o6 o7 hX;have hX:=(HBc.out.block lb hlb).trans HL.out;obtain ⟨⟨o0,o1,o2,o3,o4,o5,o6,o7⟩,_⟩:=z1h hX
    have hlen:(upF fa C r c).length≤5000:=by
     rw [z2Q];have:=Nat.mul_le_mul (show r≤9 by omega) (show C≤89 by omega);omega
    go_wp2_with fail
    refine (KA.out _ (TaGs.kept HWg.out HBc.out) (r:Int) (c:Int) (by omega) (by omega)).mono ?_;rintro e W5 ⟨rfl,hb5⟩;have hO5:=z0o HOc.out hb5;have hB5:=HBc.out.size;have hz5:=hb5.size;have HN:=Hd (z2s fa C r c);generalize fa (r:Int) (c:Int)=x at HN ⊢;generalize hU:upF fa C r c=U at hO5 hlen ⊢;have HU:=Hd hU;clear hU o0 o1 o2 o3 o4 o5 o6 o7 hX HOc;go_wp2_with (at_builtin;refine wpList_append_own _ rfl _ _ 39 rfl W3.heap.size 42 i0 _ 3 24 Try.underlying39 hi0 hz0 hz1 hz2 rfl (by decide) _ _ _ rfl (hO5.alloc _) ⟨W5.heap.size,0,none⟩ 1 1 [.int .i64 x.s,.int .i64 x.w,.int .i64 x.c] rfl rfl ?c1 ?c2 ?c3 ?c4 ?c5 ?_)
    case c1=>exact z0a (zh W5 _)
    case c2=>simp [Value.oneCell']
    case c3=>unfold maxLen;omega
    case c4=>omega
    case c5=>simp;omega
    intro v9 W9 hown9 hg9 _;have HO9:Hid (z0h W9 W3.heap.size v9 (U ++ [x])):=z25 hown9;have HB9:=Hd ((zb (zc HBc.out hb5) (.cells #[.int .i64 x.s,.int .i64 x.w,.int .i64 x.c] 42)).grown hg9 (by simp;omega) (fun b hb=>(World.ownsRow.lt hO5 b hb).1));obtain ⟨a9,c9,rfl,_⟩:=zz HO9.out;clear hown9 hg9 hO5 hb5
    have HO10:Hid (z0h W9 W3.heap.size (.slice a9 (U ++ [x]).length c9) (upF fa C r (c+1))):=by
     show z0h _ _ _ _;rw [HN.out,HU.out];exact HO9.out
    go_wp2;go_roundw
    case rel=>exact ⟨c+1,by go_num,by omega,HO10,HB9⟩
    case measure=>simp [intOf];omega
theorem z4w (ac ar:Option Addr) (cc cr:Nat) (t:T) (hD:z0w t) (w:World) {z:Nat} (hC:zV w z (.slice ac t.cols.length cc) t.cols) (hW:zD w z (.slice ar t.rows.length cr) t.rows) :
  Calls Try.prog 35 #[.agg #[.slice ac t.cols.length cc,.int .i64 t.head,.int .i64 t.foot,.slice ar t.rows.length cr,.int .i64 t.gap]] w fun e w'=>e=.returned (.int .i64 ((z0C (z0e t) (z0e t).length:Nat):Int))∧Below w.heap.size w w':=by
 have HK0:=Hd (zb (Below.refl w.heap.size w) (.cells #[.slice ac t.cols.length cc,.int .i64 t.head,.int .i64 t.foot,.slice ar t.rows.length cr,.int .i64 t.gap] 49));have HX0:=Hd (zh w (.cells #[.slice ac t.cols.length cc,.int .i64 t.head,.int .i64 t.foot,.slice ar t.rows.length cr,.int .i64 t.gap] 49));have HT0:Hid (TA (w.alloc (.cells #[.slice ac t.cols.length cc,.int .i64 t.head,.int .i64 t.foot,.slice ar t.rows.length cr,.int .i64 t.gap] 49)) z ac ar cc cr t):=TA.kept ⟨hC,hW⟩ HK0.out;have KF:=Hd (fun W (h:TA W z ac ar cc cr t)=>z3y ac ar cc cr t hD W h.1 h.2);have hlen:=z4r hD;clear hC hW hD;generalize z0e t=l at KF hlen ⊢;go_enter Try.func35,Try.ntmps35;go_upto_region 1 with fail
 generalize w.alloc (.cells #[.slice ac t.cols.length cc,.int .i64 t.head,.int .i64 t.foot,.slice ar t.rows.length cr,.int .i64 t.gap] 49)=W0 at HK0 HX0 HT0 ⊢;obtain ⟨b0,b1,b2,b3,b4⟩:=z0z HX0.out;go_wp2_with fail
 refine (KF.out _ HT0.out).mono ?_;rintro e W1 ⟨v,rfl,hF,hb1⟩;obtain ⟨av,cv,rfl,_⟩:=At.form hF;have HF:=Hd hF;have HK1:=Hd (zc HK0.out hb1);clear hF hb1 b0 b1 b2 b3 b4 HX0 HK0 HT0 KF;go_wp2_with fail
 go_loopw [3,9] (fun n i W=>∃ k:Nat,k≤l.length∧i=.int .i64 (k:Int)∧n=.int .i64 ((z0C l k:Nat):Int)∧Hid (Below W1.heap.size W1 W)) (fun _ i _=>l.length - (intOf i).toNat)
 case atStart=>exact ⟨0,Nat.zero_le _,rfl,by rw [z2J];rfl,Below.refl _ _⟩
 case round =>
  obtain ⟨k,hk,rfl,rfl,HB⟩:=hrel;by_cases hlt:k < l.length
  case neg =>
   obtain rfl:k=l.length:=by omega
   have HKe:=Hd (HK1.out.trans (HB.out.mono HK1.out.size));go_wp2;go_ret;exact ⟨rfl,HKe.out⟩
  case pos =>
   obtain ⟨b,off,cap',e',hc1,hc2,hbl,x0,x1,x2⟩:=At.get (HF.out.kept HB.out) hlt;simp only [Value.slice.injEq,true_and] at e';obtain ⟨rfl,rfl⟩:=e';unfold maxLen at hc2;have HN:=Hd (z2K hlt);have hn:=z3I l k;generalize l.getD k dF=x at x0 x1 x2 HN;generalize z0C l k=n at HN hn ⊢;have hlt':(k:Int) < (l.length:Int):=(by omega);have hwn:IntKind.i64.wrap ((n:Int)+1)=((n+1:Nat):Int):=(by rw [IntKind.wrap_i64];omega);by_cases hs1:x.s=1
   case pos =>
    have hs:=hs1;have HY:Hid (z0C l (k+1)=n+1):=(by show _=_;rw [HN.out,if_pos (by simp [shB,hs])]);have HB4:=Hd (zb HB.out (.cells #[.int .i64 x.s,.int .i64 x.w,.int .i64 x.c] 42));have hx9:=zh wr (.cells #[.int .i64 x.s,.int .i64 x.w,.int .i64 x.c] 42);rw [hs] at x0 HB4 hx9;go_upto_region 5 with fail
    generalize wr.alloc (.cells #[.int .i64 1,.int .i64 x.w,.int .i64 x.c] 42)=W5 at HB4 hx9 ⊢;obtain ⟨⟨y0,y1,y2⟩,_⟩:=zw hx9;clear x0 x1 x2 HN;go_wp2;go_roundw
    case rel=>exact ⟨k+1,by omega,by go_num,by rw [HY.out];rfl,HB4⟩
    case measure=>simp [intOf];omega
   case neg =>
   by_cases hs2:x.s=2
   case pos =>
    have hs:=hs2;have HY:Hid (z0C l (k+1)=n+1):=(by show _=_;rw [HN.out,if_pos (by simp [shB,hs])]);have HB4:=Hd (zb HB.out (.cells #[.int .i64 x.s,.int .i64 x.w,.int .i64 x.c] 42));have hx9:=zh wr (.cells #[.int .i64 x.s,.int .i64 x.w,.int .i64 x.c] 42);rw [hs] at x0 HB4 hx9;go_upto_region 5 with fail
    generalize wr.alloc (.cells #[.int .i64 2,.int .i64 x.w,.int .i64 x.c] 42)=W5 at HB4 hx9 ⊢;obtain ⟨⟨y0,y1,y2⟩,_⟩:=zw hx9;clear x0 x1 x2 HN;go_wp2;go_roundw
    case rel=>exact ⟨k+1,by omega,by go_num,by rw [HY.out];rfl,HB4⟩
    case measure=>simp [intOf];omega
   case neg =>
   by_cases hs3:x.s=3
   case pos =>
    have hs:=hs3;have HY:Hid (z0C l (k+1)=n+1):=(by show _=_;rw [HN.out,if_pos (by simp [shB,hs])]);have HB4:=Hd (zb HB.out (.cells #[.int .i64 x.s,.int .i64 x.w,.int .i64 x.c] 42));have hx9:=zh wr (.cells #[.int .i64 x.s,.int .i64 x.w,.int .i64 x.c] 42);rw [hs] at x0 HB4 hx9;go_upto_region 5 with fail
    generalize wr.alloc (.cells #[.int .i64 3,.int .i64 x.w,.int .i64 x.c] 42)=W5 at HB4 hx9 ⊢;obtain ⟨⟨y0,y1,y2⟩,_⟩:=zw hx9;clear x0 x1 x2 HN;go_wp2;go_roundw
    case rel=>exact ⟨k+1,by omega,by go_num,by rw [HY.out];rfl,HB4⟩
    case measure=>simp [intOf];omega
   case neg =>
   have HY:Hid (z0C l (k+1)=n):=by
    show _=_;rw [HN.out,if_neg (by simp only [shB,Bool.and_eq_true,decide_eq_true_eq];omega)];rfl
   have e1:(x.s == 1)=false:=beq_eq_false_iff_ne.2 hs1;have e2:(x.s == 2)=false:=beq_eq_false_iff_ne.2 hs2;have e3:(x.s == 3)=false:=beq_eq_false_iff_ne.2 hs3;have HB4:=Hd (zb HB.out (.cells #[.int .i64 x.s,.int .i64 x.w,.int .i64 x.c] 42));have hx9:=zh wr (.cells #[.int .i64 x.s,.int .i64 x.w,.int .i64 x.c] 42);go_upto_region 5 with fail
   generalize wr.alloc (.cells #[.int .i64 x.s,.int .i64 x.w,.int .i64 x.c] 42)=W5 at HB4 hx9 ⊢;obtain ⟨⟨y0,y1,y2⟩,_⟩:=zw hx9;clear x0 x1 x2 HN;go_wp2;go_roundw
   case rel=>exact ⟨k+1,by omega,by go_num,by rw [HY.out],HB4⟩
   case measure=>simp [intOf];omega
theorem z3z (ac ar ag:Option Addr) (cc cr cg:Nat) (t:T) (hD:z0w t) (k:Nat) (hk:k < (gOf t).cells.length) (w:World) {z zg:Nat} (hr:zD w z (.slice ar t.rows.length cr) t.rows) (hG:z01 w zg (.slice ag (gOf t).cells.length cg) (gOf t).cells) :
  Calls Try.prog 71 #[.agg #[.slice ac t.cols.length cc,.int .i64 t.head,.int .i64 t.foot,.slice ar t.rows.length cr,.int .i64 t.gap],.agg #[.int .i64 (gOf t).rows,.int .i64 (gOf t).cols,.slice ag (gOf t).cells.length cg],.int .i64 (k:Int)] w fun e w'=>e=.returned (.agg #[.string (zq t (k:Int)).s,.int .i64 (zq t (k:Int)).c,.int .i64 (zq t (k:Int)).r,.int .i64 (zq t (k:Int)).a1,.int .i64 (zq t (k:Int)).b1,.int .i64 (zq t (k:Int)).a2,.int .i64 (zq t (k:Int)).b2,.int .i64 (zq t (k:Int)).a3,.int .i64 (zq t (k:Int)).b3,.int .i64 (zq t (k:Int)).a4,.int .i64 (zq t (k:Int)).b4])∧Below w.heap.size w w':=by
 have hmx:Try.prog.follows .mixedOrders=true:=(by kernel_rfl);obtain ⟨h40,C,hgc,hC88,hcel⟩:=z4o hD;obtain ⟨rn,jn,cn,mn,e1,e2,_,_,h1,h2,_,_,_⟩:=(hcel k hk).ex;have HTx:Hid (zq t (k:Int)=(t.rows.getD rn dR).cells.getD jn dC):=(by rw [Hid,zq,if_neg (by omega),Int.toNat_natCast,z0A,e1,e2,Int.toNat_natCast,Int.toNat_natCast]);clear hgc;obtain ⟨W,hW0⟩:∃ W,((w.alloc (.cells #[.slice ac t.cols.length cc,.int .i64 t.head,.int .i64 t.foot,.slice ar t.rows.length cr,.int .i64 t.gap] 49)).alloc (.cells #[.int .i64 (gOf t).rows,.int .i64 (gOf t).cols,.slice ag (gOf t).cells.length cg] 56)).alloc (.cells #[.string ⟨#[]⟩,.int .i64 0,.int .i64 0,.int .i64 0,.int .i64 0,.int .i64 0,.int .i64 0,.int .i64 0,.int .i64 0,.int .i64 0,.int .i64 0] 89)=W:=⟨_,rfl⟩;have K3:Below w.heap.size w W:=(by rw [← hW0];exact zb (zb (zb (Below.refl _ _) _) _) _);have X0:W.heap[w.heap.size]?=some (.cells #[.slice ac t.cols.length cc,.int .i64 t.head,.int .i64 t.foot,.slice ar t.rows.length cr,.int .i64 t.gap] 49):=(by rw [← hW0];exact z0d (z0d (z0j _ _) _) _);have X1:W.heap[w.heap.size+1]?=some (.cells #[.int .i64 (gOf t).rows,.int .i64 (gOf t).cols,.slice ag (gOf t).cells.length cg] 56):=(by rw [← hW0];exact z0d (z13 _ _ _) _)
 have X3:W.heap[w.heap.size+1+1]?=some (.cells #[.string ⟨#[]⟩,.int .i64 0,.int .i64 0,.int .i64 0,.int .i64 0,.int .i64 0,.int .i64 0,.int .i64 0,.int .i64 0,.int .i64 0,.int .i64 0] 89):=by
  have h:=z0j ((w.alloc (.cells #[.slice ac t.cols.length cc,.int .i64 t.head,.int .i64 t.foot,.slice ar t.rows.length cr,.int .i64 t.gap] 49)).alloc (.cells #[.int .i64 (gOf t).rows,.int .i64 (gOf t).cols,.slice ag (gOf t).cells.length cg] 56)) (.cells #[.string ⟨#[]⟩,.int .i64 0,.int .i64 0,.int .i64 0,.int .i64 0,.int .i64 0,.int .i64 0,.int .i64 0,.int .i64 0,.int .i64 0,.int .i64 0] 89);rw [show ((w.alloc (.cells #[.slice ac t.cols.length cc,.int .i64 t.head,.int .i64 t.foot,.slice ar t.rows.length cr,.int .i64 t.gap] 49)).alloc (.cells #[.int .i64 (gOf t).rows,.int .i64 (gOf t).cols,.slice ag (gOf t).cells.length cg] 56)).heap.size=w.heap.size+1+1 by simp,hW0] at h;exact h
 obtain ⟨gb,goff,gcap,ge,gc1,gc2,gbl,gx,_⟩:=At.get (hG.kept K3) hk;simp only [Value.slice.injEq,true_and] at ge;obtain ⟨rfl,rfl⟩:=ge;obtain ⟨x0,x1,x2,x3,x4⟩:=gx;rw [e1] at x0;rw [e2] at x4;obtain ⟨rb,roff,rcap,re,rc1,rc2,rbl,u,hu0,_,hu⟩:=At.get (hr.kept K3) h1;simp only [Value.slice.injEq,true_and] at re;obtain ⟨rfl,rfl⟩:=re;obtain ⟨qb,qoff,qcap,qe,qc1,qc2,qbl,hv,hsl⟩:=At.get hu h2;subst qe;obtain ⟨v0,v1,v2,v3,v4,v5,v6,v7,v8,v9,v10⟩:=hv;have l1:w.heap.size < W.heap.size:=(bL X0);have l2:w.heap.size+1 < W.heap.size:=(bL X1);have hne:=z1r W;have m0:=zf (a:=⟨w.heap.size,3,none⟩) l1 (ze (p:=3) X0);have m1:=zf (a:=⟨w.heap.size+1,2,none⟩) l2 (ze (p:=2) X1);have m2:=zf gbl x0;have m4:=zf gbl x4;have m3:=zf rbl hu0;have n0:=zf qbl v0;have n1:=zf qbl v1;have n2:=zf qbl v2;have n3:=zf qbl v3;have n4:=zf qbl v4;have n5:=zf qbl v5;have n6:=zf qbl v6;have n7:=zf qbl v7;have n8:=zf qbl v8;have n9:=zf qbl v9;have n10:=zf qbl v10;have HK:=Hd K3;have HX3:=Hd X3;unfold maxLen at rc2 qc2 gc2;generalize (t.rows.getD rn dR).cells.getD jn dC=y at *;generalize (t.rows.getD rn dR).cells.length=rl at h2 m3 qc1;clear hu hu0 hr hG K3 X0 X1 X3 v0 v1 v2 v3 v4 v5 v6 v7 v8 v9 v10 hsl x0 x1 x2 x3 x4 e1 e2 hcel;go_enter Try.func71,Try.ntmps71;go_upto_region 1 with fail
 clear hW0;refine z2h 19 hmx (by rfl) (by rfl) (by kernel_rfl) (by kernel_rfl) ?_;simp only [List.take_succ_cons,List.take_zero];repeat (go_big_quiet_step (fail))
 refine wpQuiet_nil ?_;intro W5 hw';obtain ⟨⟨Wx,hW5⟩,hw''⟩:=hw';subst hw'';have l3:w.heap.size+1+1 < W.heap.size:=(bL HX3.out);have X5:=(hW5.block _ l3).trans HX3.out;obtain ⟨⟨c0,c1,c2,c3,c4,c5,c6,c7,c8,c9,c10⟩,f0,f1,f2,f3,f4,f5,f6,f7,f8,f9,f10⟩:=zH X5;have HK5:=Hd (zc HK.out hW5);clear m0 m1 m2 m3 m4 n0 n1 n2 n3 n4 n5 n6 n7 n8 n9 n10 hne hW5 X5;rw [if_pos (by rfl)];go_simp;go_wp2;exact bodyPost_ret (v:=.agg #[.string y.s,.int .i64 y.c,.int .i64 y.r,.int .i64 y.a1,.int .i64 y.b1,.int .i64 y.a2,.int .i64 y.b2,.int .i64 y.a3,.int .i64 y.b3,.int .i64 y.a4,.int .i64 y.b4]) (by simp [results,Try.results71,go_sem,c0,c1,c2,c3,c4,c5,c6,c7,c8,c9,c10]) rfl ⟨by rw [HTx.out],HK5.out.trans ((z0x W5 (w.heap.size+1+1) (.string y.s) (.int .i64 y.c) (.int .i64 y.r) (.int .i64 y.a1) (.int .i64 y.b1) (.int .i64 y.a2) (.int .i64 y.b2) (.int .i64 y.a3) (.int .i64 y.b3) (.int .i64 y.a4) (.int .i64 y.b4)).below HK5.out.size (by omega))⟩
end
end Go.Proofs.Ytggmjiddadjilag
