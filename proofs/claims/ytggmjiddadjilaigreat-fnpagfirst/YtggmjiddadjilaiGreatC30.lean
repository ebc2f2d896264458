/-
  PROVED HERE: how high the rows of a drawn table are, as a list; what the program adds to a row is what is lacking. Also: 10 more texts of the same proof.
-/
import Derived.Test.YtggmjiddadjilaiGreatC29
import Derived.Test.YtggmjiddadjilaiGreatC24
set_option maxRecDepth 1000000
set_option maxHeartbeats 40000000
namespace Go.Proofs.YtggmjiddadjilaiGreat
section
open Go.RowKit
def z5X (t:T) (l:List Int):List Int:=z0a (rcs (gOf t).cells (z1g t l (gOf t).cells)) t.rows.length
def zA (t:T) (width:Int):List Int:=if (zr t && inB width 0 300)=true then z5X t (zW t width) else []
theorem zic {t:T} (hok:zr t=true):(gOf t).rows=(t.rows.length:Nat):=by rw [z2Z hok]
theorem zid {t:T} (hD:zY t) (hok:zr t=true):∀ k,k < (gOf t).cells.length→∃ a m:Nat,((gOf t).cells.getD k dG).row=a∧((gOf t).cells.getD k dG).rows=m∧1≤m∧a+m≤t.rows.length:=by
 intro k hk;have hl:=z3K hok hD;rw [z2Z hok] at hk ⊢;have hs:=z2Y hl (z2w (d:=dG) (show k < (zF t).length from hk));unfold z1d at hs;exact ⟨((zF t).getD k dG).row.toNat,((zF t).getD k dG).rows.toNat,by show ((zF t).getD k dG).row=_;omega,by show ((zF t).getD k dG).rows=_;omega,by omega,by omega⟩
theorem zgs {t:T} (hD:zY t) (hok:zr t=true) (j:Nat):∀ k,j≤k→k < (gOf t).cells.length→((gOf t).cells.getD j dG).row≤((gOf t).cells.getD k dG).row
 | 0,h,_=>by
  obtain rfl:j=0:=by omega
  exact Int.le_refl _
 | k+1,h,hk=>by
  rcases Nat.lt_or_ge k j with h1 | h1
  ·obtain rfl:j=k+1:=by omega
   exact Int.le_refl _
  ·have ih:=zgs hD hok j k h1 (by omega);have hl:=z3K hok hD;have hk':k+1 < (zF t).length:=(by rw [z2Z hok] at hk;exact hk);have ha:=(z8Z hl hk').after (by omega);rw [z2Z hok] at ih ⊢;have e1:(⟨(t.rows.length:Int),z0n (max 1 (t.cols.length:Int)) (zF t),zF t⟩:G).cells=zF t:=rfl;rw [e1] at ih ⊢;have e2:k+1 - 1=k:=(by omega);rw [e2] at ha;omega
theorem zit {t:T} (hD:zY t):(gOf t).cells.length≤40:=(z3Q hD).1
theorem zgt {t:T} (hD:zY t) (hok:zr t=true):t.rows.length≤8:=(z3K hok hD).rows
theorem zgu (t:T) (l:List Int) (gs:List GC):∀ k,k < gs.length→((z1g t l gs).getD k []).length≤1000:=fun k hk=>by
 rw [zdk t l hk];have:=zeD t l (gs.getD k dG);omega
theorem zgv (t:T) (l:List Int) (gs:List GC):∀ c ∈ rcs gs (z1g t l gs),c.2.2≤1000:=zh1 (z4N t l gs) (fun k hk=>by have:=zgu t l gs k hk;show (((z1g t l gs).getD k []).length:Int)≤1000;omega)
theorem zeE {l:List Int} {x:GC} {a m:Nat} (hr:x.row=a) (hm:x.rows=m) (h1:1≤m) (h2:a+m≤l.length) (hb:-9223372036854775808≤zv l (a+m) - zv l a∧zv l (a+m) - zv l a≤9223372036854775807):z6i l x=zv l (a+m) - zv l a:=by
 obtain ⟨e1,e2⟩:=zbs (l:=l) (x:=zbt x) (c:=a) (m:=m) hr hm l.length (Nat.le_refl _);have e3:min l.length (a+m)=a+m:=(by omega);have e4:min l.length a=a:=(by omega);rw [e3,e4] at e2;unfold z6i z2N;rw [z4o (by rw [e1];omega),e2,Int.zero_mul,Int.add_zero,z3u hb]
theorem zhG (cs:List z0o) (R r k:Nat) {a:Nat} (ha:a≤r):zv (hsL cs R r k) (r+1) - zv (hsL cs R r k) a=(z0a cs r).sum - zv (z0a cs r) a+z2L cs r k:=by
 have h1:zv (hsL cs R r k) a=zv (z0a cs r) a:=by
  rw [zv,zv,hsL,List.take_append_of_le_length (by rw [z0R];exact ha)]
 have h2:zv (hsL cs R r k) (r+1)=(z0a cs r).sum+z2L cs r k:=by
  rw [zv,hsL,List.take_append,z0R,show r+1 - r=1 by omega,List.take_of_length_le (by rw [z0R];omega)];simp
 rw [h1,h2];omega
theorem zcM {cs:List z0o} (hc:∀ c ∈ cs,c.2.2≤1000) {r:Nat} (hr:r≤88) (a:Nat):0≤(z0a cs r).sum - zv (z0a cs r) a∧(z0a cs r).sum - zv (z0a cs r) a≤88000:=by
 refine ⟨z93 (z4U cs r) a,?_⟩;have h1:(z0a cs r).sum=((z0a cs r).take a).sum+((z0a cs r).drop a).sum:=(by rw [← List.sum_append,List.take_append_drop]);have h2:=zcH (l:=(z0a cs r).drop a) (fun x hx=>⟨z4U cs r x (List.mem_of_mem_drop hx),z7F (by omega) cs hc r x (List.mem_of_mem_drop hx)⟩);rw [List.length_drop,z0R] at h2;rw [zv];omega
theorem zh9 {cs:List z0o} (hc:∀ c ∈ cs,c.2.2≤1000) {R r k:Nat} (hR:R≤88) (hr:r < R) {x:GC} {a m:Nat} (hrx:x.row=a) (hmx:x.rows=m) (h1:1≤m) (h2:a+m=r+1):z6i (hsL cs R r k) x=(z0a cs r).sum - zv (z0a cs r) a+z2L cs r k:=by
 have hs:=zhG cs R r k (show a≤r by omega);have hb:=zcM hc (r:=r) (by omega) a;have hcb:=z9Q (by omega) hc r k;rw [← h2] at hs;rw [zeE hrx hmx h1 (by rw [zcF cs k hr];omega) (by rw [hs];omega),hs]
theorem zha {cs:List z0o} {R r k:Nat} (h:∀ j,k≤j→j < cs.length→∀ c,cs[j]?=some c→r < c.1∧1≤c.2.1):hsL cs R r k=hsL cs R r cs.length:=by
 have e:z2L cs r cs.length=z2L cs r k:=by
  rw [z2L,List.take_length,z2L];have h2:∀ f:Int→z0o→Int,cs.foldl f 0=(cs.drop k).foldl f ((cs.take k).foldl f 0):=fun f=>by rw [← List.foldl_append,List.take_append_drop]
  rw [h2];refine z9H _ _ _ (fun c hc=>?_);rw [z0R];obtain ⟨i,hi,e⟩:=List.mem_iff_getElem.mp hc;rw [List.length_drop] at hi;refine h (k+i) (by omega) (by omega) c ?_;rw [List.getElem?_eq_getElem (by omega),← e,List.getElem_drop]
 rw [hsL,hsL,e]
end
section
open Go.RowKit Go.BigFrame
def z2a (t:T) (x:GC):C:=(t.rows.getD x.row.toNat dR).cells.getD x.ins.toNat dC
theorem zdm (ac ar:Option Addr) (cc cr:Nat) (t:T) (x:GC) {C:Nat} (hx:Cel t C x) (w:World) {z:Nat} (hr:zT w z (.slice ar t.rows.length cr) t.rows) :
  Calls Tryz.prog 133 #[.agg #[.slice ac t.cols.length cc,.int .i64 t.head,.int .i64 t.foot,.slice ar t.rows.length cr,.int .i64 t.gap],.agg #[.int .i64 x.row,.int .i64 x.col,.int .i64 x.rows,.int .i64 x.cols,.int .i64 x.ins]] w fun e w'=>e=.returned (.agg #[.string (z2a t x).s,.int .i64 (z2a t x).c,.int .i64 (z2a t x).r,.int .i64 (z2a t x).a1,.int .i64 (z2a t x).b1,.int .i64 (z2a t x).a2,.int .i64 (z2a t x).b2,.int .i64 (z2a t x).a3,.int .i64 (z2a t x).b3,.int .i64 (z2a t x).a4,.int .i64 (z2a t x).b4])∧(z2a t x).s.size≤maxLen∧Below w.heap.size w w':=by
 obtain ⟨rn,jn,cn,mn,e1,e2,e3,e4,h1,h2,h3,h4,h5⟩:=hx.ex;have HTx:Hid (z2a t x=(t.rows.getD rn dR).cells.getD jn dC):=(by rw [Hid,z2a,e1,e2,Int.toNat_natCast,Int.toNat_natCast]);have hmx:Tryz.prog.follows .mixedOrders=true:=(by kernel_rfl);have K1:=ze (Below.refl w.heap.size w) (.cells #[.slice ac t.cols.length cc,.int .i64 t.head,.int .i64 t.foot,.slice ar t.rows.length cr,.int .i64 t.gap] 33);have X1:=zl w (.cells #[.slice ac t.cols.length cc,.int .i64 t.head,.int .i64 t.foot,.slice ar t.rows.length cr,.int .i64 t.gap] 33);have hs1:(w.alloc (.cells #[.slice ac t.cols.length cc,.int .i64 t.head,.int .i64 t.foot,.slice ar t.rows.length cr,.int .i64 t.gap] 33)).heap.size=w.heap.size+1:=(by simp);rw [e1,e2];clear e1 e2 e3 e4;go_enter Tryz.func133,Tryz.ntmps133;go_upto_region 1 with fail
 have K2:=ze K1 (.cells #[.int .i64 (rn:Int),.int .i64 x.col,.int .i64 x.rows,.int .i64 x.cols,.int .i64 (jn:Int)] 59);have X2:=zl (w.alloc (.cells #[.slice ac t.cols.length cc,.int .i64 t.head,.int .i64 t.foot,.slice ar t.rows.length cr,.int .i64 t.gap] 33)) (.cells #[.int .i64 (rn:Int),.int .i64 x.col,.int .i64 x.rows,.int .i64 x.cols,.int .i64 (jn:Int)] 59);have X1':=(Below.heap_alloc (w.alloc (.cells #[.slice ac t.cols.length cc,.int .i64 t.head,.int .i64 t.foot,.slice ar t.rows.length cr,.int .i64 t.gap] 33)) (.cells #[.int .i64 (rn:Int),.int .i64 x.col,.int .i64 x.rows,.int .i64 x.cols,.int .i64 (jn:Int)] 59) w.heap.size (by omega)).trans X1;rw [hs1] at X2;have hs2:((w.alloc (.cells #[.slice ac t.cols.length cc,.int .i64 t.head,.int .i64 t.foot,.slice ar t.rows.length cr,.int .i64 t.gap] 33)).alloc (.cells #[.int .i64 (rn:Int),.int .i64 x.col,.int .i64 x.rows,.int .i64 x.cols,.int .i64 (jn:Int)] 59)).heap.size=w.heap.size+2:=(by simp);generalize (w.alloc (.cells #[.slice ac t.cols.length cc,.int .i64 t.head,.int .i64 t.foot,.slice ar t.rows.length cr,.int .i64 t.gap] 33)).alloc (.cells #[.int .i64 (rn:Int),.int .i64 x.col,.int .i64 x.rows,.int .i64 x.cols,.int .i64 (jn:Int)] 59)=W2 at K2 X2 X1' hs2 ⊢;have K3:=ze K2 (.cells #[.string ⟨#[]⟩,.int .i64 0,.int .i64 0,.int .i64 0,.int .i64 0,.int .i64 0,.int .i64 0,.int .i64 0,.int .i64 0,.int .i64 0,.int .i64 0] 98);have X3:=zl W2 (.cells #[.string ⟨#[]⟩,.int .i64 0,.int .i64 0,.int .i64 0,.int .i64 0,.int .i64 0,.int .i64 0,.int .i64 0,.int .i64 0,.int .i64 0,.int .i64 0] 98);have X1'':=(Below.heap_alloc W2 (.cells #[.string ⟨#[]⟩,.int .i64 0,.int .i64 0,.int .i64 0,.int .i64 0,.int .i64 0,.int .i64 0,.int .i64 0,.int .i64 0,.int .i64 0,.int .i64 0] 98) w.heap.size (by omega)).trans X1';have X2':=(Below.heap_alloc W2 (.cells #[.string ⟨#[]⟩,.int .i64 0,.int .i64 0,.int .i64 0,.int .i64 0,.int .i64 0,.int .i64 0,.int .i64 0,.int .i64 0,.int .i64 0,.int .i64 0] 98) (w.heap.size+1) (by omega)).trans X2;rw [show W2.heap.size=w.heap.size+1+1 by omega] at X3;generalize W2.alloc (.cells #[.string ⟨#[]⟩,.int .i64 0,.int .i64 0,.int .i64 0,.int .i64 0,.int .i64 0,.int .i64 0,.int .i64 0,.int .i64 0,.int .i64 0,.int .i64 0] 98)=W at K3 X3 X1'' X2' ⊢;clear K1 X1 hs1 K2 X2 X1' hs2;obtain ⟨rb,roff,rcap,re,rc1,rc2,rbl,u,hu0,_,hu⟩:=At.get (hr.kept K3) h1;simp only [Value.slice.injEq,true_and] at re;obtain ⟨rfl,rfl⟩:=re;obtain ⟨qb,qoff,qcap,qe,qc1,qc2,qbl,hv,hsl⟩:=At.get hu h2;subst qe;obtain ⟨v0,v1,v2,v3,v4,v5,v6,v7,v8,v9,v10⟩:=hv;have l1:w.heap.size < W.heap.size:=(bL X1'');have l2:w.heap.size+1 < W.heap.size:=(bL X2');have hne:=z22 W;have m0:=zt (a:=⟨w.heap.size,3,none⟩) l1 (zf (p:=3) X1'');have m1:=zt (a:=⟨w.heap.size+1,0,none⟩) l2 (zf (p:=0) X2');have m2:=zt (a:=⟨w.heap.size+1,4,none⟩) l2 (zf (p:=4) X2');have m3:=zt rbl hu0;have n0:=zt qbl v0;have n1:=zt qbl v1;have n2:=zt qbl v2;have n3:=zt qbl v3;have n4:=zt qbl v4;have n5:=zt qbl v5;have n6:=zt qbl v6;have n7:=zt qbl v7;have n8:=zt qbl v8;have n9:=zt qbl v9;have n10:=zt qbl v10;have HSZ:Hid ((z2a t x).s.size≤maxLen):=(by rw [Hid,HTx.out];exact hsl);have HK:=Hd K3;have HX3:=Hd X3;unfold maxLen at rc2 qc2;generalize (t.rows.getD rn dR).cells.getD jn dC=y at *;generalize (t.rows.getD rn dR).cells.length=rl at h2 m3 qc1;clear hu hu0 hr h3 h4 h5 hx K3 X3 X1'' X2' v0 v1 v2 v3 v4 v5 v6 v7 v8 v9 v10 hsl;refine z1B 11 hmx (by rfl) (by rfl) (by kernel_rfl) (by kernel_rfl) ?_;simp only [List.take_succ_cons,List.take_zero];repeat (go_big_quiet_step (fail))
 refine wpQuiet_nil ?_;intro W5 hw';obtain ⟨⟨Wx,hW5⟩,hw''⟩:=hw';subst hw'';have l3:w.heap.size+1+1 < W.heap.size:=(bL HX3.out);have X5:=(hW5.block _ l3).trans HX3.out;obtain ⟨⟨c0,c1,c2,c3,c4,c5,c6,c7,c8,c9,c10⟩,f0,f1,f2,f3,f4,f5,f6,f7,f8,f9,f10⟩:=z0A X5;have HK5:=Hd (zh HK.out hW5);clear m0 m1 m2 m3 n0 n1 n2 n3 n4 n5 n6 n7 n8 n9 n10 hne hW5 X5;rw [if_pos (by rfl)];go_simp;go_wp2;exact bodyPost_ret (v:=.agg #[.string y.s,.int .i64 y.c,.int .i64 y.r,.int .i64 y.a1,.int .i64 y.b1,.int .i64 y.a2,.int .i64 y.b2,.int .i64 y.a3,.int .i64 y.b3,.int .i64 y.a4,.int .i64 y.b4]) (by simp [results,Tryz.results133,go_sem,c0,c1,c2,c3,c4,c5,c6,c7,c8,c9,c10]) rfl ⟨by rw [HTx.out],HSZ.out,HK5.out.trans ((z23 W5 (w.heap.size+1+1) (.string y.s) (.int .i64 y.c) (.int .i64 y.r) (.int .i64 y.a1) (.int .i64 y.b1) (.int .i64 y.a2) (.int .i64 y.b2) (.int .i64 y.a3) (.int .i64 y.b3) (.int .i64 y.a4) (.int .i64 y.b4)).below HK5.out.size (by omega))⟩
end
section
open Go.RowKit
theorem za2 {t:T} {x:GC} {C:Nat} (hx:Cel t C x) {w:World} {z:Nat} {v:Value} (hr:zT w z v t.rows):(zL t x).size≤maxLen:=by
 obtain ⟨rn,jn,cn,mn,e1,e2,e3,e4,h1,h2,h3,h4,h5⟩:=hx.ex;rw [zL,e1,e2,Int.toNat_natCast,Int.toNat_natCast];obtain ⟨rb,roff,rcap,re,rc1,rc2,rbl,u,hu0,_,hu⟩:=At.get hr h1;obtain ⟨qb,qoff,qcap,qe,qc1,qc2,qbl,hv,hsl⟩:=At.get hu h2;exact hsl
theorem zc5 (s:ByteArray) (x1 x2 x3 x4 x5 x6 x7 x8 x9 x10:Value) (W:World):(Instr.field 98 (.agg #[.string s,x1,x2,x3,x4,x5,x6,x7,x8,x9,x10]) 0).run Tryz.prog W=.ok (.string s) W:=by kernel_rfl
theorem z8D (ac ar:Option Addr) (cc cr:Nat) (t:T) (x:GC) {C:Nat} (hx:Cel t C x) (w:World) {z:Nat} (hr:zT w z (.slice ar t.rows.length cr) t.rows) :
  Calls Tryz.prog 102 #[.agg #[.slice ac t.cols.length cc,.int .i64 t.head,.int .i64 t.foot,.slice ar t.rows.length cr,.int .i64 t.gap],.agg #[.int .i64 x.row,.int .i64 x.col,.int .i64 x.rows,.int .i64 x.cols,.int .i64 x.ins]] w fun e w'=>e=.returned (.string (zL t x))∧(zL t x).size≤maxLen∧Below w.heap.size w w':=by
 have HC:=Hd (zdm ac ar cc cr t x hx);have hfl:=zc5;have K2:=ze (ze (Below.refl w.heap.size w) (.cells #[.slice ac t.cols.length cc,.int .i64 t.head,.int .i64 t.foot,.slice ar t.rows.length cr,.int .i64 t.gap] 33)) (.cells #[.int .i64 x.row,.int .i64 x.col,.int .i64 x.rows,.int .i64 x.cols,.int .i64 x.ins] 59);have HR:=Hd (hr.kept K2);have HK:=Hd K2;clear hr hx K2;go_enter Tryz.func102,Tryz.ntmps102;go_wp2_with fail
 refine (HC.out _ HR.out).mono ?_;rintro e w1 ⟨rfl,hsz,hb1⟩;have HK1:=Hd (zh HK.out hb1);clear hb1 HK HR HC;go_wp2;go_ret;exact ⟨rfl,hsz,HK1.out⟩
def z2H (js:List Nat):List Int:=js.map (fun k:Nat=>(k:Int))
theorem z1C (js:List Nat):(z2H js).length=js.length:=by simp [z2H]
theorem z7O {js:List Nat} {k:Nat} (h:k < js.length):(z2H js).getD k 0=((js.getD k 0:Nat):Int):=by simp [z2H,List.getD,h]
theorem zeG (js:List Nat) (k:Nat):z2H (js ++ [k])=z2H js ++ [(k:Int)]:=by simp [z2H]
theorem zg5 {P:Nat→Bool} {n:Nat} (h:P n=true):zi P (n+1)=zi P n ++ [n]:=by rw [z6W,if_pos h]
theorem zhb {P:Nat→Bool} {n:Nat} (h:P n=false):zi P (n+1)=zi P n:=by rw [z6W,if_neg (by rw [h];simp),List.append_nil]
theorem z3f (P:Nat→Bool) (n:Nat):(zi P n).length≤n:=by unfold zi;exact Nat.le_trans (List.length_filter_le _ _) (by simp)
theorem z7f {P:Nat→Bool} {n k:Nat} (h:k < (zi P n).length):(zi P n).getD k 0 < n∧P ((zi P n).getD k 0)=true:=by
 have e:(zi P n).getD k 0=(zi P n)[k]:=(by simp [List.getD,h]);rw [e];exact z2F h
def z3U (l:List Int) (k:Nat):List Int:=l.take k ++ List.replicate (l.length - k) 0
theorem z5D (l:List Int) {k:Nat} (h:k≤l.length):(z3U l k).length=l.length:=by simp [z3U];omega
theorem z8E (l:List Int):z3U l 0=List.replicate l.length 0:=by simp [z3U]
theorem za3 (l:List Int):z3U l l.length=l:=by simp [z3U]
theorem z8F {l:List Int} {k:Nat} (h:k < l.length):z3U l (k+1)=(z3U l k).set k (l.getD k 0):=by
 have e:List.replicate (l.length - k) (0:Int)=0 :: List.replicate (l.length - (k+1)) 0:=by
  rw [show l.length - k=(l.length - (k+1))+1 by omega,List.replicate_succ]
 have hl:(l.take k).length=k:=(by rw [List.length_take];omega);unfold z3U;rw [e,List.set_append_right _ _ (by omega),hl,Nat.sub_self,List.set_cons_zero,List.take_succ_eq_append_getElem h,show l.getD k 0=l[k] by simp [List.getD,h],List.append_assoc];rfl
structure Bk2 (r s:Nat) (w w':World):Prop where
 os:w'.os=w.os
 tape:w'.tape=w.tape
 output:w'.output=w.output
 size:w.heap.size≤w'.heap.size
 block:∀ k,k < w.heap.size→k ≠ r→k ≠ s→w'.heap[k]?=w.heap[k]?
theorem Bk2.refl (r s:Nat) (w:World):Bk2 r s w w:=⟨rfl,rfl,rfl,Nat.le_refl _,fun _ _ _ _=>rfl⟩
theorem Bk2.trans {r s:Nat} {a b c:World} (h:Bk2 r s a b) (k:Bk2 r s b c):Bk2 r s a c :=
 ⟨k.os.trans h.os,k.tape.trans h.tape,k.output.trans h.output,Nat.le_trans h.size k.size,fun i hi hr hs=>(k.block i (Nat.lt_of_lt_of_le hi h.size) hr hs).trans (h.block i hi hr hs)⟩
theorem Bk2.of_below {r s:Nat} {w w':World} (h:Below w.heap.size w w'):Bk2 r s w w':=⟨h.os,h.tape,h.output,h.size,fun k hk _ _=>h.block k hk⟩
theorem Bk2.set {r s:Nat} {a w:World} (h:Bk2 r s a w) {p:Addr} (hp:p.block=r∨p.block=s) (u:Value):Bk2 r s a (w.setCell p u) :=
 ⟨h.os,h.tape,h.output,by simpa [World.setCell] using h.size,fun k hk hr hs=>(Below.heap_setCell _ _ _ _ (by omega)).trans (h.block k hk hr hs)⟩
theorem Bk2.below {r s:Nat} {w w':World} (h:Bk2 r s w w') {n:Nat} (hn:n≤w.heap.size) (hr:n≤r) (hs:n≤s):Below n w w':=⟨h.os,h.tape,h.output,h.size,fun k hk=>h.block k (by omega) (by omega) (by omega)⟩
theorem zz.bk2 {w w':World} {B D r s:Nat} {v:Value} {l:List Int} (h:zz w B D v l) (k:Bk2 r s w w') (hr:r < B∨D≤r) (hs:s < B∨D≤s):zz w' B D v l:=h.kept (fun j h0 h1 h2=>k.block j h0 (by omega) (by omega))
def Sp (W:World) (sb:Nat) (ac ar:Option Addr) (cc cr:Nat) (t:T) (width:Int) (g cap C:Nat) (left:Int):Prop :=
 W.heap[sb]?=some (.cells #[.slice ac t.cols.length cc,.int .i64 t.head,.int .i64 t.foot,.slice ar t.rows.length cr,.int .i64 t.gap,.int .i64 width,.slice (some ⟨g,0,none⟩) C cap,.int .i64 left] 108)
theorem Sp.lt {W:World} {sb:Nat} {ac ar:Option Addr} {cc cr:Nat} {t:T} {width:Int} {g cap C:Nat} {left:Int} (h:Sp W sb ac ar cc cr t width g cap C left):sb < W.heap.size:=(bL h)
theorem Sp.kept {W W':World} {sb:Nat} {ac ar:Option Addr} {cc cr:Nat} {t:T} {width:Int} {g cap C:Nat} {left:Int} (h:Sp W sb ac ar cc cr t width g cap C left) (k:Below W.heap.size W W'):Sp W' sb ac ar cc cr t width g cap C left:=(k.block sb h.lt).trans h
theorem Sp.other {W:World} {sb:Nat} {ac ar:Option Addr} {cc cr:Nat} {t:T} {width:Int} {g cap C:Nat} {left:Int} (h:Sp W sb ac ar cc cr t width g cap C left) {p:Addr} (hp:sb ≠ p.block) (u:Value):Sp (W.setCell p u) sb ac ar cc cr t width g cap C left:=(Below.heap_setCell _ _ _ _ hp).trans h
theorem Sp.left {W:World} {sb:Nat} {ac ar:Option Addr} {cc cr:Nat} {t:T} {width:Int} {g cap C:Nat} {left:Int} (h:Sp W sb ac ar cc cr t width g cap C left) (x:Int):Sp (W.setCell ⟨sb,7,none⟩ (.int .i64 x)) sb ac ar cc cr t width g cap C x:=(z06 h (p:=7) (.int .i64 x)).trans (by simp)
theorem z5l {l:List Int} {js:List Nat} {g:List Int} {M N:Int} (hM:0≤M) (hl:∀ i,0≤l.getD i 0∧l.getD i 0≤M) (hg:∀ i,0≤g.getD i 0∧g.getD i 0≤N):∀ (k:Nat) (i:Nat),0≤(z0j l js g k).getD i 0∧(z0j l js g k).getD i 0≤M+k * N
 | 0,i=>by have:=hl i;simp only [z0j];omega
 | k+1,i=>by
  have h0:=z5l (js:=js) hM hl hg k i;have h1:=z5l (js:=js) hM hl hg k (js.getD k 0);have h2:=hg k;have e:((k+1:Nat):Int) * N=k * N+N:=(by rw [Int.natCast_add,Int.add_mul];simp);rw [e];simp only [z0j];generalize js.getD k 0=j at h1 ⊢;generalize z0j l js g k=L at h0 h1 ⊢;generalize g.getD k 0=x at h2 ⊢;by_cases hi:i=j
  ·subst hi;by_cases hlen:i < L.length
   ·have e2:(L.set i (L.getD i 0+x)).getD i 0=L.getD i 0+x:=(by rw [List.getD,List.getElem?_set_self hlen,Option.getD_some]);rw [e2];omega
   ·rw [List.set_eq_of_length_le (by omega)];omega
  ·have e2:(L.set j (L.getD j 0+x)).getD i 0=L.getD i 0:=(by rw [List.getD,List.getElem?_set_ne (Ne.symm hi)];rfl);rw [e2];omega
theorem z5Y {l:List Int} (h:∀ i,i < l.length→0≤l.getD i 0∧l.getD i 0≤100000):l.all wtB=true:=by
 rw [List.all_eq_true];intro x hx;obtain ⟨i,hi,rfl⟩:=List.mem_iff_getElem.1 hx;have:=h i hi;rw [show l.getD i 0=l[i] by simp [List.getD,hi]] at this;simp only [wtB,decide_eq_true_eq];exact this
theorem zdn {left:Int} {l:List Int} (hok:zq left l=true):(z0i left l).all wtB=true:=by
 obtain ⟨l1,_,_,_,e1⟩:=z1Z hok;obtain ⟨_,_,hw⟩:=z01 hok;exact z5Y (fun i hi=>by have:=e1 i (by omega);have:=z3i hw (i:=i) (by omega);omega)
theorem z8G {L want:List Int} {P:Nat→Bool} {left:Int} (hl:want.length=L.length) (hok:zq left want=true) (hz:∀ i,i < want.length→P i=false→want.getD i 0=0) :
  zq left (zG want P L.length)=true∧(z0i left (zG want P L.length)).length=(zi P L.length).length∧(z0i left (zG want P L.length)).all wtB=true∧left - (z0i left (zG want P L.length)).sum=z2e left want ∧
  z0j L (zi P L.length) (z0i left (zG want P L.length)) (zi P L.length).length=z1o L (z0i left want):=by
 have hok':zq left (zG want P L.length)=true:=(by rw [← hl];exact zeB hok);obtain ⟨e1,e2⟩:=zg3 hok hz;rw [hl] at e1 e2;obtain ⟨a1,a2,a3,a4,a5⟩:=z1Z hok;obtain ⟨b1,b2,b3,b4,b5⟩:=z1Z hok';refine ⟨hok',by rw [b1,z1z],zdn hok',by rw [← e2];omega,?_⟩;rw [e1];refine zbq (by omega) (fun i hi hP=>?_);have:=a5 i (by omega);rw [hz i (by omega) hP] at this;omega
structure SpS (w0:World) (sb:Nat) (ac ar:Option Addr) (cc cr:Nat) (t:T) (width:Int) (g cap C D:Nat) (left:Int) (L:List Int) (W:World):Prop where
 bel:Below w0.heap.size w0 W
 sp:Sp W sb ac ar cc cr t width g cap C left
 row:zz W w0.heap.size D (.slice (some ⟨g,0,none⟩) C cap) L
theorem SpS.kept {w0:World} {sb:Nat} {ac ar:Option Addr} {cc cr:Nat} {t:T} {width:Int} {g cap C D:Nat} {left:Int} {L:List Int} {W W':World} (h:SpS w0 sb ac ar cc cr t width g cap C D left L W) (k:Below W.heap.size W W'):SpS w0 sb ac ar cc cr t width g cap C D left L W' :=
 ⟨zh h.bel k,h.sp.kept k,h.row.kept (fun j h0 _ _=>k.block j h0)⟩
theorem SpS.bk {w0:World} {sb:Nat} {ac ar:Option Addr} {cc cr:Nat} {t:T} {width:Int} {g cap C D r:Nat} {left:Int} {L:List Int} {W W':World} (h:SpS w0 sb ac ar cc cr t width g cap C D left L W) (k:Bk r W W') (hr:w0.heap.size≤r) (h1:r ≠ sb) (h2:D≤r):SpS w0 sb ac ar cc cr t width g cap C D left L W' :=
 ⟨h.bel.trans (k.below h.bel.size hr),(k.block sb h.sp.lt (Ne.symm h1)).trans h.sp,h.row.kept (fun j h0 _ h3=>k.block j h0 (by omega))⟩
theorem zhc (t:T) (q:Int) (k:Nat):((sd t.cols k).1 == q)=zn t q k:=by rw [Bool.eq_iff_iff];simp [zn]
theorem z6k (sb:Nat) (ac ar:Option Addr) (cc cr:Nat) (t:T) (width:Int) (g cap C:Nat) (left q:Int) (hC:C≤88) (w:World) {z:Nat} (hS:Sp w sb ac ar cc cr t width g cap C left) (hc:zX w z (.slice ac t.cols.length cc) t.cols) :
  Calls Tryz.prog 110 #[.pointer (some ⟨sb,0,none⟩),.int .i64 q] w fun e w'=>∃ v,e=.returned v∧zz w' w.heap.size w'.heap.size v (z2H (zi (zn t q) C))∧Below w.heap.size w w':=by
 obtain ⟨i0,hi,hz0,hz1,hz2⟩:=info_parts zeA;have hf0:=zhI;have HS:=Hd hS;have HC:=Hd hc;have s6:w.cell? ⟨sb,6,none⟩=some (.slice (some ⟨g,0,none⟩) C cap):=zf hS;clear hS hc;go_enter Tryz.func110,Tryz.ntmps110;go_wp2_with fail
 clear s6;go_loopw [5,12] (fun o i W=>∃ k:Nat,i=.int .i64 k∧k≤C∧Hid (W.ownsRow w.heap.size 3 1 o (z2H (zi (zn t q) k)).length ((z2H (zi (zn t q) k)).map (Value.int .i64)))∧Hid (Below w.heap.size w W)) (fun _ i _=>C - (intOf i).toNat)
 case atStart=>exact ⟨0,rfl,Nat.zero_le _,⟨by simp [z2H,zi],.inl ⟨rfl,by simp [z2H,zi]⟩⟩,Below.refl _ _⟩
 case round =>
  obtain ⟨k,rfl,hk,HO,HB⟩:=hrel;by_cases hlt:k < C
  case neg =>
   obtain rfl:k=C:=by omega
   have HR:=Hd (zz.of_owns HO.out);go_wp2;go_ret;exact ⟨_,rfl,HR.out.base (Nat.le_refl _) (Nat.le_refl _),HB.out⟩
  have s0:wr.cell? ⟨sb,0,none⟩=some (.slice ac t.cols.length cc):=zf (HS.out.kept HB.out);have KS:=Hd (z8H _ t.cols (k:Int) wr (HC.out.kept HB.out));have hkq:=zhc t q k;have hol:(z2H (zi (zn t q) k)).length≤k:=(by rw [z1C];exact z3f _ _);generalize sd t.cols k=p at KS hkq
  cases hp:zn t q k with
  | false =>
   have HL:Hid (z2H (zi (zn t q) (k+1))=z2H (zi (zn t q) k)):=(by rw [Hid,zhb hp]);rw [hp] at hkq;clear hp;go_wp2_with fail
   refine KS.out.mono ?_;rintro e w1 ⟨rfl,hb1⟩;have HB1:=Hd (zh HB.out hb1);have HO1:=Hd (zz.of_owns HO.out |>.kept (fun j h0 _ _=>hb1.block j h0));clear hb1 s0;go_wp2;go_roundw
   case rel=>exact ⟨k+1,by go_num,by omega,by rw [HL.out];exact HO1.out.owns,HB1⟩
   case measure=>simp [intOf];omega
  | true =>
   have HL:Hid (z2H (zi (zn t q) (k+1))=z2H (zi (zn t q) k) ++ [(k:Int)]):=(by rw [Hid,zg5 hp,zeG]);rw [hp] at hkq;clear hp;generalize z2H (zi (zn t q) k)=xs at HO HL hol;go_wp2_with fail
   refine KS.out.mono ?_;rintro e w1 ⟨rfl,hb1⟩;have HB1:=Hd (zh HB.out hb1);have hO4:=(zz.of_owns HO.out |>.kept (fun j h0 _ _=>hb1.block j h0)).owns;have hsz:w.heap.size≤w1.heap.size:=HB1.out.size;clear hb1 s0;go_wp2_with (at_builtin;refine wpList_append_own _ rfl _ _ 34 rfl w.heap.size 3 i0 (.int .i64 0) 1 8 Tryz.underlying34 hi hz0 hz1 hz2 rfl (by decide) _ _ _ rfl (hO4.alloc _) ⟨w1.heap.size,0,none⟩ 1 1 [.int .i64 (k:Int)] rfl rfl ?c1 ?c2 ?c3 ?c4 ?c5 ?_)
   case c1 =>
    intro i u hi
    match i,hi with
    | 0,hi=>simp at hi;subst hi;simp [Addr.add]
   case c2=>intro u hu;simp at hu;subst hu;rfl
   case c3=>unfold maxLen;omega
   case c4=>omega
   case c5=>simp;omega
   intro v' w5 hown' hgrow' _;obtain ⟨hB5,_⟩:=z9T (Nat.le_refl _) hO4 HB1.out hgrow';have HB5:=Hd hB5;have HO5:Hid (w5.ownsRow w.heap.size 3 1 v' (xs ++ [(k:Int)]).length ((xs ++ [(k:Int)]).map (Value.int .i64))):=(by rw [List.length_append,List.map_append];exact hown');obtain ⟨g',cap'',rfl⟩:=Joins.ownsRow_form hown' (by omega);clear hown' hgrow' hO4 hB5 HO HB HB1;go_wp2;go_roundw
   case rel=>exact ⟨k+1,by go_num,by omega,by rw [HL.out];exact HO5,HB5⟩
   case measure=>simp [intOf];omega
end
section
open Go.RowKit Go.BigFrame
theorem z3V {G:List Int} (h:G.all wtB=true) (i:Nat):0≤G.getD i 0∧G.getD i 0≤100000:=by
 by_cases hi:i < G.length
 ·exact z3i h hi
 ·rw [show G.getD i 0=0 by simp [List.getD,hi]];omega
theorem z6l (sb:Nat) (ac ar:Option Addr) (cc cr:Nat) (t:T) (width:Int) (g cap C:Nat) (left:Int) (L G:List Int) (js:List Nat) (vc vg:Value) (B D B1:Nat) (hLC:L.length=C) (hjC:∀ k,k < js.length→js.getD k 0 < C) (hjl:js.length≤88) (hGl:G.length=js.length)
  (hLs:L.all wtB=true) (hGs:G.all wtB=true) (hl:0≤left∧left≤100000) (hgD:g < D) (hDs:D≤sb) (hs1:sb < B1) (w:World) (hS:Sp w sb ac ar cc cr t width g cap C left) (hR:zz w B D (.slice (some ⟨g,0,none⟩) C cap) L) (h1:zz w B1 w.heap.size vc (z2H js)) (h2:zz w B1 w.heap.size vg G) :
  Calls Tryz.prog 112 #[.pointer (some ⟨sb,0,none⟩),vc,vg] w fun e w'=>e=.returned (.tuple #[])∧Sp w' sb ac ar cc cr t width g cap C (left - G.sum)∧zz w' B D (.slice (some ⟨g,0,none⟩) C cap) (z0j L js G js.length)∧Bk2 g sb w w':=by
 have hmx:Tryz.prog.follows .mixedOrders=true:=(by kernel_rfl);obtain ⟨a1,c1,rfl⟩:=h1.form;obtain ⟨a2,c2,rfl⟩:=h2.form;rw [z1C] at h1 ⊢;rw [hGl] at h2 ⊢;have HGl:=Hd hGl;have H1:=Hd h1;have H2:=Hd h2;have HS:=Hd hS;have HR:=Hd hR;have HSm:=Hd (fun k i=>z5l (js:=js) (M:=100000) (N:=100000) (by omega) (z3V hLs) (z3V hGs) k i);have HSu:=Hd (z4e hGs);have HGg:=Hd (z3V hGs);have HjC:=Hd hjC;have HE:Hid (left - G.sum=left - zv G js.length):=(by rw [Hid,← hGl,z1b]);have HSu:Hid (∀ k,k≤js.length→0≤zv G k∧zv G k≤k * 100000):=fun k hk=>HSu.out k (by omega);clear h1 h2 hS hR hLs hGs hjC hGl;go_enter Tryz.func112,Tryz.ntmps112;go_wp2_with fail
 go_loopw [10] (fun s W=>∃ k:Nat,s=.int .i64 k∧k≤js.length∧Hid (Sp W sb ac ar cc cr t width g cap C (left - zv G k))∧Hid (zz W B D (.slice (some ⟨g,0,none⟩) C cap) (z0j L js G k))∧Hid (Bk2 g sb w W)) (fun s _=>js.length - (intOf s).toNat)
 case atStart=>exact ⟨0,rfl,Nat.zero_le _,by rw [show left - zv G 0=left by simp [zv]];exact HS,HR,Bk2.refl _ _ _⟩
 case round =>
  clear HS HR;obtain ⟨k,rfl,hk,HS,HR,HB⟩:=hrel;by_cases hlt:k < js.length
  case neg =>
   obtain rfl:k=js.length:=by omega
   go_wp2
   first
    | go_end0
    | skip
   exact ⟨rfl,by rw [HE.out];exact HS.out,HR.out,HB.out⟩
  obtain ⟨b1,c1',e1,hb1B,_,hb1w,hc11,hc12,hx1,_⟩:=(H1.out.bk2 HB.out (.inl (by omega)) (.inl hs1)).get (i:=k) (by rw [z1C];exact hlt);rw [z1C] at e1 hc11;rw [z7O hlt] at hx1;simp only [Value.slice.injEq,true_and] at e1;obtain ⟨rfl,rfl⟩:=e1;obtain ⟨b2,c2',e2,hb2B,_,hb2w,hc21,hc22,hx2,_⟩:=(H2.out.bk2 HB.out (.inl (by omega)) (.inl hs1)).get (i:=k) (by rw [HGl.out];exact hlt);rw [HGl.out] at e2 hc21;simp only [Value.slice.injEq,true_and] at e2;obtain ⟨rfl,rfl⟩:=e2;have hj:=HjC.out k hlt;have hgs:=z3S L js G k;obtain ⟨g',cap',e3,hgB,_,hgw,hc31,hc32,hx3,hf3⟩:=HR.out.get (i:=js.getD k 0) (by omega);rw [hgs,hLC] at e3 hc31;simp only [Value.slice.injEq,Option.some.injEq,Addr.mk.injEq,and_true,true_and] at e3;obtain ⟨rfl,rfl⟩:=e3;have hs3:=HSm.out k (js.getD k 0);have hy:=HGg.out k;have hsu:=HSu.out k (by omega);have HG1:Hid (z0j L js G (k+1)=(z0j L js G k).set (js.getD k 0) ((z0j L js G k).getD (js.getD k 0) 0+G.getD k 0)):=rfl;have HG2:Hid (left - zv G (k+1)=left - zv G k - G.getD k 0):=(by rw [Hid,z18 (by rw [HGl.out];exact hlt)];omega);unfold maxLen at hc12 hc22 hc32;have hne:=z22 wr;have m0:=zt (a:=⟨sb,6,none⟩) HS.out.lt (zf (p:=6) HS.out);have m1:=zt (a:=⟨g,js.getD k 0,none⟩) hgw hx3;have m2:=zt (a:=⟨b2,k,none⟩) hb2w hx2;generalize zv G k=su at HS hsu HG2;generalize hjj:js.getD k 0=j at *;generalize hxx:(z0j L js G k).getD j 0=x at *;generalize hyy:G.getD k 0=y at *;clear hx2 hx3 hf3;go_upto_region 3 with fail
  clear hx1;refine z1B 13 hmx (by rfl) (by rfl) (by kernel_rfl) (by kernel_rfl) ?_;simp only [List.take_succ_cons,List.take_zero];repeat (go_big_quiet_step (fail))
  refine wpQuiet_nil ?_;intro W5 hw';obtain ⟨⟨Wx,hW5⟩,hw''⟩:=hw';subst hw'';have hlj:j < (z0j L js G k).length:=(by omega);have HR5:=Hd ((HR.out.kept (fun i h0 _ _=>hW5.block i h0)).set (i:=j) hlj (x+y));rw [← HG1.out] at HR5;have HS5:=Hd ((HS.out.kept hW5).other (p:=⟨g,j,none⟩) (show sb ≠ g by omega) (.int .i64 (x+y)));have HB5:=Hd ((HB.out.trans (Bk2.of_below hW5)).set (p:=⟨g,j,none⟩) (.inl rfl) (.int .i64 (x+y)));obtain ⟨g5,cap5,e5,_,_,hgw5,_,_,hx5,hf5⟩:=(HR.out.kept (fun i h0 _ _=>hW5.block i h0)).get (i:=j) hlj;simp only [Value.slice.injEq,Option.some.injEq,Addr.mk.injEq,and_true] at e5;have eg:=e5.1;clear e5;subst eg;clear m0 m1 m2 hne hW5 HR HS HB HG1 hs3;rw [if_pos (by rfl)];go_simp;clear hx5 hf5;go_upto_region 4 with fail
  generalize W5.setCell ⟨g,j,none⟩ (.int .i64 (x+y))=W6 at HR5 HS5 HB5 ⊢;obtain ⟨b2',c2'',e2,_,_,hb2w',_,_,hx2,_⟩:=(H2.out.bk2 HB5.out (.inl (by omega)) (.inl hs1)).get (i:=k) (by rw [HGl.out];exact hlt);rw [HGl.out] at e2;simp only [Value.slice.injEq,Option.some.injEq,Addr.mk.injEq,and_true,true_and] at e2;obtain ⟨rfl,rfl⟩:=e2;rw [hyy] at hx2;have hne:=z22 W6;have m0:=zt (a:=⟨sb,7,none⟩) HS5.out.lt (zf (p:=7) HS5.out);have m2:=zt (a:=⟨b2,k,none⟩) hb2w' hx2;clear hx2;refine z1B 11 hmx (by rfl) (by rfl) (by kernel_rfl) (by kernel_rfl) ?_;simp only [List.take_succ_cons,List.take_zero];repeat (go_big_quiet_step (fail))
  refine wpQuiet_nil ?_;intro W7 hw';obtain ⟨⟨Wy,hW7⟩,hw''⟩:=hw';subst hw'';have HR7:=Hd ((HR5.out.kept (fun i h0 _ _=>hW7.block i h0)).kept (w':=W7.setCell ⟨sb,7,none⟩ (.int .i64 (left - su - y))) (fun i _ _ h2=>Below.heap_setCell _ _ _ _ (show i ≠ sb by omega)));have HS7:=Hd ((HS5.out.kept hW7).left (left - su - y));have HB7:=Hd ((HB5.out.trans (Bk2.of_below hW7)).set (p:=⟨sb,7,none⟩) (.inr rfl) (.int .i64 (left - su - y)));have hq7:W7.cell? ⟨sb,7,none⟩=some (.int .i64 (left - su)):=zf (p:=7) (HS5.out.kept hW7);have hf7:W7.frozen? ⟨sb,7,none⟩=false:=zx (p:=7) (HS5.out.kept hW7);clear m0 m2 hne hW7 HR5 HS5 HB5;rw [if_pos (by rfl)];go_simp;go_wp2;go_roundw
  case rel=>exact ⟨k+1,by go_num,by omega,by rw [HG2.out];exact HS7,HR7,HB7⟩
  case measure=>simp [intOf];omega
def z4Q (t:T) (C:Nat) (left:Int) (L:List Int):List Int :=
 if 0 < (zi (zn t 0) C).length then z1o L (zo left (z0Y (zn t 0) C)) else if 0 < (zi (zn t 2) C).length then z1o L (zo left (z0Y (zn t 2) C)) else L
theorem z9e:∀ {l:List Int},(∀ x ∈ l,0≤x)→0≤l.sum
 | [],_=>by simp
 | a :: r,h=>by
  have h1:=h a (by simp);have h2:=z9e (l:=r) (fun x hx=>h x (by simp [hx]));simp only [List.sum_cons];omega
theorem zeM:∀ {l:List Int},(∀ x ∈ l,0≤x)→∀ x ∈ l,x≤l.sum
 | [],_,x,hx=>by cases hx
 | a :: r,h,x,hx=>by
  have h1:=h a (by simp);have h2:=z9e (l:=r) (fun x hx=>h x (by simp [hx]));simp only [List.sum_cons]
  rcases List.mem_cons.1 hx with rfl | hx
  ·omega
  ·have:=zeM (l:=r) (fun x hx=>h x (by simp [hx])) x hx;omega
theorem zbA {l:List Int} (h:∀ i,i < l.length→0≤l.getD i 0) {i:Nat} (hi:i < l.length):l.getD i 0≤l.sum:=by
 rw [show l.getD i 0=l[i] by simp [List.getD,hi]];refine zeM (fun x hx=>?_) _ (List.getElem_mem hi);obtain ⟨j,hj,rfl⟩:=List.mem_iff_getElem.1 hx;have:=h j hj
 rwa [show l.getD j 0=l[j] by simp [List.getD,hj]] at this
theorem z8L {L:List Int} {P:Nat→Bool} {left:Int} {C:Nat} (hLC:L.length=C) (hC:C≤88) (ht:0≤left∧left≤100000) :
  zq left (List.replicate (zi P C).length 0)=true∧(zo left (List.replicate (zi P C).length 0)).length=(zi P C).length∧(zo left (List.replicate (zi P C).length 0)).all wtB=true ∧
  (0 < (zi P C).length→z0j L (zi P C) (zo left (List.replicate (zi P C).length 0)) (zi P C).length=z1o L (zo left (z0Y P C)))∧((zi P C).length=0→z0j L (zi P C) (zo left (List.replicate (zi P C).length 0)) (zi P C).length=L):=by
 have hnl:=z3f P C;have hok:zq left (List.replicate (zi P C).length 0)=true:=zdj ht (by simp;omega) (fun i hi=>by rw [List.length_replicate] at hi;simp [List.getD,hi]);have hl:=z1m hok;rw [List.length_replicate] at hl;refine ⟨hok,hl,?_,fun h0=>?_,fun h0=>by rw [h0];rfl⟩
 ·by_cases h0:0 < (zi P C).length
  ·refine z5Y (fun i hi=>?_);have h1:=z1K (t:=left) (l:=List.replicate (zi P C).length 0) i hi;have h2:=z33 hok (by simpa using h0);have h3:=zbA (l:=zo left (List.replicate (zi P C).length 0)) (fun j hj=>(z1K (t:=left) (l:=List.replicate (zi P C).length 0) j hj).1) hi;omega
  ·have:zo left (List.replicate (zi P C).length 0)=[]:=List.eq_nil_of_length_eq_zero (by omega);rw [this];rfl
 ·rw [z8y P ht (by omega) h0];have hok1:=z7c P (n:=C) ht (by omega);have h1:=z1m hok1;rw [z1A] at h1;have:=zbq (l:=L) (zN:=zo left (z0Y P C)) (P:=P) (by omega) (fun i hi hP=>z4K hok1 (by rw [zbr];omega) (by rw [z1A];omega) (by rw [z5j (by omega),if_neg (by rw [hP];simp)]));rw [hLC] at this;exact this
theorem zao (w0:World) (sb:Nat) (ac ar:Option Addr) (cc cr:Nat) (t:T) (width:Int) (g cap C D:Nat) (left:Int) (L:List Int) {z:Nat} (hc:zX w0 z (.slice ac t.cols.length cc) t.cols) (hC:C≤88) (hLC:L.length=C) (hLs:L.all wtB=true) (hg0:w0.heap.size≤g) (hgD:g < D) (hDs:D≤sb) (hleft:0≤left∧left≤100000) (w:World) (h:SpS w0 sb ac ar cc cr t width g cap C D left L w) :
  Calls Tryz.prog 62 #[.pointer (some ⟨sb,0,none⟩)] w fun e w'=>e=.returned (.tuple #[])∧(∃ left',SpS w0 sb ac ar cc cr t width g cap C D left' (z4Q t C left L) w')∧Bk2 g sb w w':=by
 have H:=Hd h;have hsbw:sb < w.heap.size:=h.sp.lt;have HB0:=Hd (Below.refl w.heap.size w);have KO:=Hd (fun q W (h:SpS w0 sb ac ar cc cr t width g cap C D left L W)=>z6k sb ac ar cc cr t width g cap C left q hC W h.sp (hc.kept h.bel));clear h hc;by_cases hn0:0 < (zi (zn t 0) C).length
 ·have hne:(((zi (zn t 0) C).length:Int) == 0)=false:=beq_eq_false_iff_ne.2 (by omega);go_enter Tryz.func62,Tryz.ntmps62;go_wp2_with fail
  refine (KO.out 0 _ H.out).mono ?_;rintro e w1 ⟨v1,rfl,hr1,hb1⟩;obtain ⟨a1,c1,rfl⟩:=hr1.form;rw [z1C] at hr1 ⊢;have HS1:=Hd (H.out.kept hb1);have HB1:=Hd (zh HB0.out hb1);have HR1:=Hd hr1;have hz1:=hb1.size;have hmk:=z5x (zi (zn t 0) C).length (by have:=z3f (zn t 0) C;omega);have hnl:=z3f (zn t 0) C;obtain ⟨ok1,len1,all1,give1,give0⟩:=z8L (P:=zn t 0) (L:=L) (left:=left) hLC hC hleft;have HLt:=Hd (fun k (hk:k < (zi (zn t 0) C).length)=>(z7f hk).1)
  have HFin:Hid (z0j L (zi (zn t 0) C) (zo left (List.replicate (zi (zn t 0) C).length 0)) (zi (zn t 0) C).length=z4Q t C left L):=by
   rw [Hid,z4Q];rw [if_pos hn0];exact give1 hn0
  have HA1:=Hd all1;have HLn:=Hd len1;have HOk:=Hd ok1;generalize zi (zn t 0) C=js at hr1 HR1 hmk hnl HLt HFin HA1 HLn HOk hne hn0 ⊢;clear hr1 hb1 ok1 len1 all1 give1 give0;have hA2:=ze (Below.refl w1.heap.size w1) (.cells (z0G js.length) 3);have HN:=Hd (z4c w1 js.length (by omega));have hn2:(w1.alloc (.cells (z0G js.length) 3)).heap.size=w1.heap.size+1:=(by simp);have HS2:=Hd (HS1.out.kept hA2);have HR2:=Hd (HR1.out.kept (w':=w1.alloc (.cells (z0G js.length) 3)) (fun j h0 _ _=>hA2.block j h0));have HB2:=Hd (zh HB1.out hA2);clear HS1 HR1 HB1 hA2;go_upto_region 4 with fail
  generalize w1.alloc (.cells (z0G js.length) 3)=W2 at HN HS2 HR2 HB2 hn2 ⊢;generalize w1.heap.size=gb at HN HR2 hn2 hz1 ⊢;have s7:W2.cell? ⟨sb,7,none⟩=some (.int .i64 left):=zf (p:=7) HS2.out.sp;have KU:=Hd (z3W left _ _ HOk.out W2 HN.out.at);go_wp2_with fail
  refine KU.out.mono ?_;rintro e w5 ⟨v5,rfl,hr5,hb5⟩;obtain ⟨a5,c5,rfl⟩:=hr5.form;have hz5:=hb5.size;generalize zo left (List.replicate js.length 0)=G at hr5 HFin HA1 HLn KU ⊢;have KG:=Hd (z6l sb ac ar cc cr t width g cap C left L G js (.slice a1 js.length c1) (.slice a5 G.length c5) w0.heap.size D w.heap.size hLC HLt.out (by omega) HLn.out hLs HA1.out hleft hgD hDs hsbw w5 (HS2.out.kept hb5).sp (HS2.out.kept hb5).row ((HR2.out.kept (fun j h0 _ _=>hb5.block j h0)).base (by omega) (by omega)) (hr5.base (by omega) (Nat.le_refl _)));have HB6:=Hd (zh HB2.out hb5);have HL6:=Hd ((HS2.out.kept hb5).bel);clear KU s7;go_wp2_with fail
  refine KG.out.mono ?_;rintro e w6 ⟨rfl,hs6,hr6,hb6⟩;have HF6:=Hd (SpS.mk (HL6.out.trans (hb6.below HL6.out.size hg0 (by omega))) hs6 hr6);rw [HFin.out] at HF6;have HK6:=Hd ((Bk2.of_below HB6.out).trans hb6);clear hs6 hr6 hb6;go_wp2
  go_end0
  exact ⟨rfl,⟨_,HF6.out⟩,HK6.out⟩
 ·have hl0:(zi (zn t 0) C).length=0:=(by omega);go_enter Tryz.func62,Tryz.ntmps62;go_wp2_with fail
  refine (KO.out 0 _ H.out).mono ?_;rintro e wa ⟨va,rfl,hra,hba⟩;obtain ⟨aa,ca,rfl⟩:=hra.form;rw [z1C,hl0] at hra ⊢;have Ha:=Hd (H.out.kept hba);have HBa:=Hd hba;have hza:=hba.size;clear hra hba;go_wp2_with fail
  refine (KO.out 2 _ Ha.out).mono ?_;rintro e w1 ⟨v1,rfl,hr1,hb1⟩;obtain ⟨a1,c1,rfl⟩:=hr1.form;rw [z1C] at hr1 ⊢;have HS1:=Hd (Ha.out.kept hb1);have HB1:=Hd (zh HBa.out hb1);have HR1:=Hd hr1;have hz1:=hb1.size;have hmk:=z5x (zi (zn t 2) C).length (by have:=z3f (zn t 2) C;omega);have hnl:=z3f (zn t 2) C;obtain ⟨ok1,len1,all1,give1,give0⟩:=z8L (P:=zn t 2) (L:=L) (left:=left) hLC hC hleft;have HLt:=Hd (fun k (hk:k < (zi (zn t 2) C).length)=>(z7f hk).1)
  have HFin:Hid (z0j L (zi (zn t 2) C) (zo left (List.replicate (zi (zn t 2) C).length 0)) (zi (zn t 2) C).length=z4Q t C left L):=by
   rw [Hid,z4Q];rw [if_neg hn0];by_cases hn2:0 < (zi (zn t 2) C).length
   ·rw [if_pos hn2];exact give1 hn2
   ·rw [if_neg hn2];exact give0 (by omega)
  have HA1:=Hd all1;have HLn:=Hd len1;have HOk:=Hd ok1;generalize zi (zn t 2) C=js at hr1 HR1 hmk hnl HLt HFin HA1 HLn HOk ⊢;clear hr1 hb1 ok1 len1 all1 give1 give0;have hA2:=ze (Below.refl w1.heap.size w1) (.cells (z0G js.length) 3);have HN:=Hd (z4c w1 js.length (by omega));have hn2:(w1.alloc (.cells (z0G js.length) 3)).heap.size=w1.heap.size+1:=(by simp);have HS2:=Hd (HS1.out.kept hA2);have HR2:=Hd (HR1.out.kept (w':=w1.alloc (.cells (z0G js.length) 3)) (fun j h0 _ _=>hA2.block j h0));have HB2:=Hd (zh HB1.out hA2);clear HS1 HR1 HB1 hA2;go_upto_region 4 with fail
  generalize w1.alloc (.cells (z0G js.length) 3)=W2 at HN HS2 HR2 HB2 hn2 ⊢;generalize w1.heap.size=gb at HN HR2 hn2 hz1 ⊢;have s7:W2.cell? ⟨sb,7,none⟩=some (.int .i64 left):=zf (p:=7) HS2.out.sp;have KU:=Hd (z3W left _ _ HOk.out W2 HN.out.at);go_wp2_with fail
  refine KU.out.mono ?_;rintro e w5 ⟨v5,rfl,hr5,hb5⟩;obtain ⟨a5,c5,rfl⟩:=hr5.form;have hz5:=hb5.size;generalize zo left (List.replicate js.length 0)=G at hr5 HFin HA1 HLn KU ⊢;have KG:=Hd (z6l sb ac ar cc cr t width g cap C left L G js (.slice a1 js.length c1) (.slice a5 G.length c5) w0.heap.size D w.heap.size hLC HLt.out (by omega) HLn.out hLs HA1.out hleft hgD hDs hsbw w5 (HS2.out.kept hb5).sp (HS2.out.kept hb5).row ((HR2.out.kept (fun j h0 _ _=>hb5.block j h0)).base (by omega) (by omega)) (hr5.base (by omega) (Nat.le_refl _)));have HB6:=Hd (zh HB2.out hb5);have HL6:=Hd ((HS2.out.kept hb5).bel);clear KU s7;go_wp2_with fail
  refine KG.out.mono ?_;rintro e w6 ⟨rfl,hs6,hr6,hb6⟩;have HF6:=Hd (SpS.mk (HL6.out.trans (hb6.below HL6.out.size hg0 (by omega))) hs6 hr6);rw [HFin.out] at HF6;have HK6:=Hd ((Bk2.of_below HB6.out).trans hb6);clear hs6 hr6 hb6;go_wp2
  go_end0
  exact ⟨rfl,⟨_,HF6.out⟩,HK6.out⟩
end
section
open Go.RowKit
theorem za6 {L M:List Int} (hl:M.length=L.length) (hs:M.sum=0) (hp:∀ i,i < M.length→0≤M.getD i 0):z1o L M=L:=by
 apply zby (z5k hl);intro i hi;rw [z5k hl] at hi;rw [z4b hl hi];have h1:=zbA hp (i:=i) (by omega);have h2:=hp i (by omega);omega
theorem zeN {L want:List Int} (hl:want.length=L.length) (hok:zq 0 want=true):z1o L (z0i 0 want)=L∧z2e 0 want=0:=by
 obtain ⟨a1,a2,a3,a4,a5⟩:=z1Z hok;have hp:∀ i,i < (z0i 0 want).length→0≤(z0i 0 want).getD i 0:=fun i hi=>(a5 i (by omega)).1
 have hs:0≤(z0i 0 want).sum:=z9e (fun x hx=>by
  obtain ⟨j,hj,rfl⟩:=List.mem_iff_getElem.1 hx;have:=hp j hj
  rwa [show (z0i 0 want).getD j 0=(z0i 0 want)[j] by simp [List.getD,hj]] at this)
 exact ⟨za6 (by omega) (by omega) hp,by omega⟩
theorem z8M {L:List Int} {P:Nat→Bool} {C:Nat} (hLC:L.length=C) (hC:C≤88) (h0:0 < (zi P C).length):z1o L (zo 0 (z0Y P C))=L:=by
 have hok:=z7c P (n:=C) (t:=0) (by omega) (by omega);have hl:=z1m hok;rw [z1A] at hl;have hC0:0 < C:=(by have:=z3f P C;omega);exact za6 (by omega) (z33 hok (by rw [z1A];exact hC0)) (fun i hi=>(z1K i hi).1)
theorem zeO {t:T} {C:Nat} {L:List Int} (hLC:L.length=C) (hC:C≤88):z4Q t C 0 L=L:=by
 unfold z4Q
 split
 ·rename_i h;exact z8M hLC hC h
 ·split
  ·rename_i h;exact z8M hLC hC h
  ·rfl
theorem zbB {t:T} {width:Int} (h:0 < z0q t width):zW t width=z4Q t (zy t) (z2f t width) (z1q t width):=by
 unfold zW z4Q;rw [if_neg (by omega)]
theorem zcN {t:T} (hD:zY t) (hok:zr t=true) {width:Int} (hw:0≤width∧width≤300) (hC:zy t≤88) (h:0 < z0q t width) (h2:z2f t width≤0):zW t width=z1q t width:=by
 obtain ⟨_,_,hl2,_,ho2,_⟩:=z3G hD hok hw h;have e:z2f t width=0:=(by omega);rw [zbB h,e,zeO ho2 hC]
theorem zhg {t:T} (hD:zY t) (hok:zr t=true) {width:Int} (hw:0≤width∧width≤300) (hC:zy t≤88) (h:0 < z0q t width) (h1:z1Q t width≤0):zW t width=z0S t width:=by
 obtain ⟨ok1,ok2,hl2,ho1,ho2,_⟩:=z3G hD hok hw h
 have e:z1Q t width=0:=by
  have:=(z1Z ok1).2.2.1;unfold z1Q at h1 ⊢;omega
 have e2:z1q t width=z0S t width∧z2f t width=0:=by
  unfold z1q z2f;rw [e] at ok2 ⊢;exact zeN (z36 _ _) ok2
 rw [zcN hD hok hw hC h (by omega),e2.1]
theorem zhJ {t:T} {width:Int} (h:z0q t width≤0):zW t width=zu t:=by unfold zW;rw [if_pos h]
theorem zeP {t:T} (hD:zY t) (hok:zr t=true) {width:Int} (hw:0≤width∧width≤300) (h:0 < z0q t width) {j:Nat} (hj:j < zy t) (hP:zn t 0 j=true):(z0S t width).getD j 0≤(z2E t).getD j 0:=by
 obtain ⟨_,_,_,_,_,_,hk⟩:=z3G hD hok hw h
 have h2:zn t 2 j=false:=by
  simp only [zn,decide_eq_true_eq] at hP;simp [zn,hP]
 rw [(hk j hj).2.2.1 h2];have:=z9X hj;omega
theorem zdq {t:T} (hD:zY t) (hok:zr t=true) {width:Int} (hw:0≤width∧width≤300) (h:0 < z0q t width):(z0S t width).all wtB=true∧(z1q t width).all wtB=true:=by
 obtain ⟨ok1,ok2,_,ho1,ho2,_⟩:=z3G hD hok hw h;have hup:=z3D hD;obtain ⟨a1,a2,a3,a4,a5⟩:=z1Z ok1;obtain ⟨b1,b2,b3,b4,b5⟩:=z1Z ok2;rw [z3F] at a1 a5;rw [z36] at b1 b5;have hr:z0q t width≤100000:=(z01 ok1).1.2;have hl:z1Q t width≤100000:=(z01 ok2).1.2;have hll:=z1n t
 have s1:∀ i,i < zy t→0≤(z0S t width).getD i 0∧(z0S t width).getD i 0≤5300:=fun i hi=>by
  have h1:=a5 i (by omega);have h2:=hup i (by omega);have h3:(z0S t width).getD i 0=(zu t).getD i 0+(z0i (z0q t width) (z1O t width (zu t))).getD i 0:=(by unfold z0S;exact z4b (by omega) (by omega));rw [z4x (by omega)] at h1;have hk:=z7d (t:=t) hi;have hps:=fun hn=>z8z hw (n:=(sd t.cols i).2) hn
  split at h1
  ·rename_i hP
   simp only [zn,decide_eq_true_eq] at hP;have:=hps (by omega);omega
  ·omega
 refine ⟨z5Y (fun i hi=>by have:=s1 i (by omega);omega),z5Y (fun i hi=>?_)⟩;have h1:=b5 i (by omega);have h2:=s1 i (by omega);have h3:(z1q t width).getD i 0=(z0S t width).getD i 0+(z0i (z1Q t width) (z1P t (z0S t width))).getD i 0:=(by unfold z1q;exact z4b (by omega) (by omega));rw [z4y (by omega)] at h1;have h4:=z7M hD i (by rw [z5A];omega)
 split at h1 <;> omega
theorem z5F {t:T} (hD:zY t) (hok:zr t=true):1≤zy t∧zy t≤88∧z1R (zu t) t.gap=(zu t).sum+t.gap * ((zy t:Int) - 1)∧0≤z1R (zu t) t.gap∧z1R (zu t) t.gap≤1000000∧(zu t).all wtB=true:=by
 obtain ⟨_,C,hgc,hC,hcel⟩:=z3Q hD;have hCN:=z4Z hgc;have hlen:=z1n t;have hup:=z3D hD;have hall:(zu t).all wtB=true:=z5Y (fun i hi=>by have:=hup i hi;omega);have hs:=z2Q hall
 have hC1:1≤zy t:=by
  have h1:(gOf t).cols=z0n (max 1 (t.cols.length:Int)) (zF t):=(by rw [z2Z hok]);have h2:=z4q (zF t) (max 1 (t.cols.length:Int));unfold zy;omega
 have hg:0≤t.gap∧t.gap≤3:=by
  simp only [zr,inB,Bool.and_eq_true,decide_eq_true_eq] at hok;exact hok.2.2.1
 have hg1:0≤t.gap * ((zy t:Int) - 1):=Int.mul_nonneg hg.1 (by omega);have hg2:t.gap * ((zy t:Int) - 1)≤3 * 87:=Int.mul_le_mul hg.2 (by omega) (by omega) (by omega);have hsb:=z4Y (l:=zu t) (B:=5000) (fun x hx=>hup.mem hx)
 have e:z1R (zu t) t.gap=(zu t).sum+t.gap * ((zy t:Int) - 1):=by
  rw [z4o (by omega),hlen,z3u (by omega)]
 refine ⟨hC1,by omega,e,by omega,?_,hall⟩;rw [e];omega
end
section
open Go.RowKit Go.BigFrame
theorem zgb {t:T} {width:Int} {L:List Int} {i:Nat} (hi:i < (z1O t width L).length) (hP:zn t 2 i=false):(z1O t width L).getD i 0=0:=by
 rw [z4x (by rw [z3F] at hi;exact hi),if_neg (by rw [hP];simp)]
theorem zgc {t:T} {j:Nat} (h:zn t 2 j=true):j < t.cols.length∧sd t.cols j=t.cols.getD j (0,0):=by
 by_cases hj:j < t.cols.length
 ·exact ⟨hj,z8x hj⟩
 ·rw [zn,zat (z2v (by omega))] at h;simp at h
theorem zc8 (w0:World) (sb:Nat) (ac ar:Option Addr) (cc cr:Nat) (t:T) (width:Int) (g cap C D:Nat) (left:Int) (L:List Int) {z:Nat} (hc:zX w0 z (.slice ac t.cols.length cc) t.cols) (hC:C≤88) (hCt:C=zy t) (hLC:L.length=C) (hLs:L.all wtB=true) (hg0:w0.heap.size≤g) (hgD:g < D) (hDs:D≤sb) (hw:0≤width∧width≤300) (hok:zq left (z1O t width L)=true) (w:World) (h:SpS w0 sb ac ar cc cr t width g cap C D left L w) :
  Calls Tryz.prog 60 #[.pointer (some ⟨sb,0,none⟩)] w fun e w'=>e=.returned (.tuple #[])∧SpS w0 sb ac ar cc cr t width g cap C D (z2e left (z1O t width L)) (z1o L (z0i left (z1O t width L))) w'∧Bk2 g sb w w':=by
 have hmx:Tryz.prog.follows .mixedOrders=true:=(by kernel_rfl);obtain ⟨ok1,len1,all1,sum1,give1⟩:=z8G (P:=zn t 2) (z3F t width L) hok (fun i hi hP=>zgb hi hP);rw [hLC] at ok1 len1 all1 sum1 give1;have HTl:=Hd (z1z (z1O t width L) (zn t 2) C);have HTg:=Hd (fun k (hk:k < (zi (zn t 2) C).length)=>z35 (l:=z1O t width L) hk);have HW:=Hd (fun j (hj:j < C) (hP:zn t 2 j=true)=>(z4x (t:=t) (width:=width) (l:=L) (k:=j) (by omega)).trans (if_pos hP));have HKd:=Hd (fun j (hj:j < C)=>z7d (t:=t) (k:=j) (by omega));have HLt:=Hd (fun k (hk:k < (zi (zn t 2) C).length)=>z7f hk);have hnl:=z3f (zn t 2) C;have HC:=Hd hc;have H:=Hd h;have KO:=Hd (z6k sb ac ar cc cr t width g cap C left 2 hC w h.sp (hc.kept h.bel));have hmk:=z5x (zi (zn t 2) C).length (by omega);have HG1:=Hd give1;have HSum:=Hd sum1;have HA1:=Hd all1;have HLn:=Hd len1;have hleft:=(z01 hok).1;have HOk:=Hd ok1;generalize zi (zn t 2) C=js at *;generalize hT:zG (z1O t width L) (zn t 2) C=T at *;clear h hc give1 sum1 all1 len1 ok1 hok hT;have hTl:=HTl.out;go_enter Tryz.func60,Tryz.ntmps60;go_wp2_with fail
 refine KO.out.mono ?_;rintro e w1 ⟨v1,rfl,hr1,hb1⟩;obtain ⟨a1,c1,rfl⟩:=hr1.form;rw [z1C] at hr1 ⊢;have HR1:=Hd hr1;have HS1:=Hd (H.out.kept hb1);have HB1:=Hd hb1;have hz1:=hb1.size;clear hr1 hb1 KO;have hn2:(w1.alloc (.cells (z0G js.length) 3)).heap.size=w1.heap.size+1:=(by simp);have HN:=Hd (z4c w1 js.length (by omega));have hA2:=ze (Below.refl w1.heap.size w1) (.cells (z0G js.length) 3);go_upto_region 2 with fail
 have HS2:=Hd (HS1.out.kept hA2);have HR2:=Hd (HR1.out.kept (w':=w1.alloc (.cells (z0G js.length) 3)) (fun j h0 _ _=>hA2.block j h0));have HB2:=Hd (zh HB1.out hA2);have hD2:D≤w1.heap.size:=(by have:=HS1.out.sp.lt;omega);have hsb1:sb < w1.heap.size:=HS1.out.sp.lt;have hsbw:sb < w.heap.size:=H.out.sp.lt;have hw0:w0.heap.size≤w1.heap.size:=HS1.out.bel.size;clear HS1 HR1 HB1 hA2 H;generalize w1.alloc (.cells (z0G js.length) 3)=W2 at HN HS2 HR2 HB2 hn2 ⊢;generalize w1.heap.size=gb at HN HR2 hn2 hD2 hsb1 hz1 hw0 ⊢;go_wp2_with fail
 go_loopw [16] (fun s W=>∃ k:Nat,s=.int .i64 k∧k≤js.length∧Hid (zz W gb (gb+1) (.slice (some ⟨gb,0,none⟩) js.length js.length) (z3U T k))∧Hid (Bk gb W2 W)) (fun s _=>js.length - (intOf s).toNat)
 case atStart=>exact ⟨0,rfl,Nat.zero_le _,by rw [z8E,hTl];exact HN,Bk.refl _ _⟩
 case round =>
  clear HN;obtain ⟨k,rfl,hk,HF,HB⟩:=hrel;have HS:=Hd (HS2.out.bk HB.out hw0 (by omega) hD2);have HR:=Hd (HR2.out.kept (fun j h0 _ h2=>HB.out.block j h0 (by omega)));by_cases hlt:k < js.length
  case pos =>
   obtain ⟨b1,c1',e1,hb1B,_,hb1w,hc11,hc12,hx1,_⟩:=HR.out.get (i:=k) (by rw [z1C];exact hlt);rw [z1C] at e1 hc11;rw [z7O hlt] at hx1;simp only [Value.slice.injEq,true_and] at e1;obtain ⟨rfl,rfl⟩:=e1;obtain ⟨hjC,hjP⟩:=HLt.out k hlt;have hTk:=HTg.out k hlt;have hjj:js[k]=js.getD k 0:=(by simp [List.getD,hlt]);rw [hjj] at hTk;rw [HW.out _ hjC hjP] at hTk;obtain ⟨hjc,hsd⟩:=zgc hjP;have hkd:=HKd.out _ hjC;have hk2:(sd t.cols (js.getD k 0:Nat)).1=2:=(by simpa [zn] using hjP);rw [hsd] at hTk hkd hk2;obtain ⟨b,off,cap2,e2,hc21,hc22,hbl,hy0,hy1⟩:=At.get (HC.out.kept HS.out.bel) hjc;simp only [Value.slice.injEq,true_and] at e2;obtain ⟨rfl,rfl⟩:=e2;obtain ⟨g',cap',e3,_,_,hgw,hc31,hc32,hx3,_⟩:=HS.out.row.get (i:=js.getD k 0) (by omega);rw [hLC] at e3 hc31;simp only [Value.slice.injEq,Option.some.injEq,Addr.mk.injEq,and_true,true_and] at e3;obtain ⟨rfl,rfl⟩:=e3;have hxs:=z3V hLs (js.getD k 0);generalize js.getD k 0=j at *;generalize t.cols.getD j (0,0)=p at *;generalize L.getD j 0=x at *;have hp2:1≤p.2∧p.2≤100:=(by omega);have hm0:0≤width * p.2:=Int.mul_nonneg hw.1 (by omega);have hm1:width * p.2≤30000:=Int.le_trans (Int.mul_le_mul hw.2 hp2.2 (by omega) (by omega)) (by omega);have hq:Int.tdiv (width * p.2) 100=width * p.2 / 100:=Int.tdiv_eq_ediv_of_nonneg hm0;unfold maxLen at hc12 hc22 hc32;have HFx:=Hd (z8F (l:=T) (k:=k) (by omega));rw [hTk] at HFx;have hne:=z22 wr;have m0:=zt (a:=⟨sb,5,none⟩) HS.out.sp.lt (zf (p:=5) HS.out.sp);have m1:=zt (a:=⟨sb,0,none⟩) HS.out.sp.lt (zf (p:=0) HS.out.sp);have m2:=zt hbl hy1;have HX:=Hd (And.intro hgw hx3);clear hy0 hy1 hx3 hTk hsd hkd hk2 hjP;go_upto_region 5 with fail
   clear hx1;refine z0L hmx (by kernel_rfl) ?_;repeat (go_big_quiet_step (fail))
   refine wpQuiet_nil ?_;intro W5 hw';obtain ⟨⟨Wx,hW5⟩,hw''⟩:=hw';subst hw'';have s6:W5.cell? ⟨sb,6,none⟩=some (.slice (some ⟨g,0,none⟩) C cap):=zf (p:=6) (HS.out.sp.kept hW5);have gx:W5.cell? ⟨g,j,none⟩=some (.int .i64 x):=(hW5.cell (p:=⟨g,j,none⟩) HX.out.1).trans HX.out.2;have HF5:=Hd (HF.out.kept (fun i h0 _ _=>hW5.block i h0));have HB5:=Hd (HB.out.trans (Bk.of_below hW5));obtain ⟨g5,cap5,e5,_,_,hgw5,_,_,hx5,hf5⟩:=HF5.out.get (i:=k) (by rw [z5D T (by omega)];omega);simp only [Value.slice.injEq,Option.some.injEq,Addr.mk.injEq,and_true] at e5;have eg:=e5.1;clear e5;subst eg;have HF6:=Hd (HF5.out.set (i:=k) (by rw [z5D T (by omega)];omega) (max 0 (width * p.2 / 100 - x)));rw [← HFx.out] at HF6;have hyb:0≤width * p.2 / 100∧width * p.2 / 100≤300:=(by omega);generalize width * p.2 / 100=y at *;clear m0 m1 m2 hne hW5 HX HF HB HF5 HFx;go_wp2;go_roundw
   case rel=>exact ⟨k+1,by go_num,by omega,HF6,HB5.out.set (p:=⟨gb,k,none⟩) (.inl rfl) _⟩
   case measure=>simp [intOf];omega
  case neg =>
   obtain rfl:k=js.length:=by omega
   have s7:wr.cell? ⟨sb,7,none⟩=some (.int .i64 left):=zf (p:=7) HS.out.sp;have HF':Hid (zz wr gb (gb+1) (.slice (some ⟨gb,0,none⟩) js.length js.length) T):=(by rw [← za3 T,hTl];exact HF);have KU:=Hd (z6w left _ T HOk.out wr HF'.out.at);go_wp2_with fail
   refine KU.out.mono ?_;rintro e w5 ⟨v5,rfl,hr5,hb5⟩;obtain ⟨a5,c5,rfl⟩:=hr5.form;have hz5:=hb5.size;have hzr:=HB.out.size;have KG:=Hd (z6l sb ac ar cc cr t width g cap C left L (z0i left T) js (.slice a1 js.length c1) (.slice a5 (z0i left T).length c5) w0.heap.size D w.heap.size hLC (fun k hk=>(HLt.out k hk).1) (by omega) HLn.out hLs HA1.out hleft hgD hDs hsbw w5 (HS.out.kept hb5).sp (HS.out.kept hb5).row ((HR.out.kept (fun j h0 _ _=>hb5.block j h0)).base (Nat.le_refl _) (by omega)) (hr5.base (by omega) (Nat.le_refl _)));have HB6:=Hd ((HB2.out.trans (HB.out.below (n:=w.heap.size) (by omega) (by omega))).trans (hb5.mono (by omega)));have HL6:=Hd ((HS.out.kept hb5).bel);clear KU s7;go_wp2_with fail
   refine KG.out.mono ?_;rintro e w6 ⟨rfl,hs6,hr6,hb6⟩;have HF6:=Hd (SpS.mk (HL6.out.trans (hb6.below HL6.out.size hg0 (by omega))) hs6 hr6);rw [HSum.out,HG1.out] at HF6;have HK6:=Hd ((Bk2.of_below HB6.out).trans hb6);clear hs6 hr6 hb6;go_wp2
   go_end0
   exact ⟨rfl,HF6.out,HK6.out⟩
end
end Go.Proofs.YtggmjiddadjilaiGreat
