/-
  PROVED HERE: the program's WidCols at a drawn table and any width: the list widT, in memory of its own; nothing that was in memory is turned. Also: 7 more texts of the same proof.
-/
import Derived.Test.YtggmjiddadjilamGreatC32
import Derived.Test.YtggmjiddadjilamGreatC25
set_option maxRecDepth 1000000
set_option maxHeartbeats 40000000
namespace Go.Proofs.YtggmjiddadjilamGreat
section
open Go.RowKit Go.BigFrame
def zac (t:T) (width:Int) (k:Nat) (left:Int) (L:List Int):Prop :=
 (k=0∧L=zv t∧left=z0v t width) ∨
 (k=1∧(0 < z0v t width∧L=z0P t width∧left=z1D t width∨left≤0∧L=z0d t width)) ∨
 (k=2∧(0 < z0v t width∧L=z1N t width∧left=z1E t width∨left≤0∧L=z0d t width)) ∨
 (k=3∧L=z0d t width)
theorem zkb {t:T} {width left:Int} {L:List Int} (h:zac t width 3 left L):L=z0d t width:=by
 rcases h with ⟨h,_⟩ | ⟨h,_⟩ | ⟨h,_⟩ | ⟨_,h⟩
 ·omega
 ·omega
 ·omega
 ·exact h
theorem zja {t:T} {width left:Int} {L:List Int} {k:Nat} (h:zac t width k left L) (hn:¬ 0 < left) (hk:k < 3) (h0:z0v t width≤0→z0d t width=zv t) (h1:0 < z0v t width→z1D t width≤0→z0d t width=z0P t width) (h2:0 < z0v t width→z1E t width≤0→z0d t width=z1N t width):zac t width (k+1) left L:=by
 rcases h with ⟨rfl,rfl,rfl⟩ | ⟨rfl,h⟩ | ⟨rfl,h⟩ | ⟨h,_⟩
 ·exact .inr (.inl ⟨rfl,.inr ⟨by omega,(h0 (by omega)).symm⟩⟩)
 ·refine .inr (.inr (.inl ⟨rfl,.inr ?_⟩))
  rcases h with ⟨a,rfl,rfl⟩ | ⟨a,b⟩
  ·exact ⟨by omega,(h1 a (by omega)).symm⟩
  ·exact ⟨a,b⟩
 ·refine .inr (.inr (.inr ⟨rfl,?_⟩))
  rcases h with ⟨a,rfl,rfl⟩ | ⟨a,b⟩
  ·exact (h2 a (by omega)).symm
  ·exact b
 ·omega
theorem zi4 {t:T} {width left:Int} {L:List Int} {k:Nat} (h:zac t width k left L) (hp:0 < left) (hk:k < 3):0 < z0v t width∧(k=0∧L=zv t∧left=z0v t width∨k=1∧L=z0P t width∧left=z1D t width∨k=2∧L=z1N t width∧left=z1E t width):=by
 rcases h with ⟨rfl,rfl,rfl⟩ | ⟨rfl,h⟩ | ⟨rfl,h⟩ | ⟨h,_⟩
 ·exact ⟨hp,.inl ⟨rfl,rfl,rfl⟩⟩
 ·rcases h with ⟨a,rfl,rfl⟩ | ⟨a,b⟩
  ·exact ⟨a,.inr (.inl ⟨rfl,rfl,rfl⟩)⟩
  ·omega
 ·rcases h with ⟨a,rfl,rfl⟩ | ⟨a,b⟩
  ·exact ⟨a,.inr (.inr ⟨rfl,rfl,rfl⟩)⟩
  ·omega
 ·omega
theorem zdK (ac ar:Option Addr) (cc cr:Nat) (t:T) (hD:z0g t) (width:Int) (w:World) {z:Nat} (hc:z07 w z (.slice ac t.cols.length cc) t.cols) (hr:z01 w z (.slice ar t.rows.length cr) t.rows) :
  Calls Tryz.prog 6 #[.agg #[.slice ac t.cols.length cc,.int .i64 t.head,.int .i64 t.foot,.slice ar t.rows.length cr,.int .i64 t.gap],.int .i64 width] w fun e w'=>∃ v,e=.returned v∧zq w' w.heap.size w'.heap.size v (z5E t width)∧Below w.heap.size w w':=by
 have hmx:Tryz.prog.follows .mixedOrders=true:=(by kernel_rfl);have hmf:∀ (fn:Fn) (first cap:Array Value) (W:World),(Instr.makeFunc fn first cap).run Tryz.prog W=.ok (.func fn first cap) W:=fun _ _ _ _=>rfl;have HK0:=Hd (ze (Below.refl w.heap.size w) (.cells #[.slice ac t.cols.length cc,.int .i64 t.head,.int .i64 t.foot,.slice ar t.rows.length cr,.int .i64 t.gap] 26));have HX:=Hd (zj w (.cells #[.slice ac t.cols.length cc,.int .i64 t.head,.int .i64 t.foot,.slice ar t.rows.length cr,.int .i64 t.gap] 26));have HT:=Hd (And.intro (hc.kept HK0.out) (hr.kept HK0.out));have HT0:=Hd (And.intro hc hr);have hs1:(w.alloc (.cells #[.slice ac t.cols.length cc,.int .i64 t.head,.int .i64 t.foot,.slice ar t.rows.length cr,.int .i64 t.gap] 26)).heap.size=w.heap.size+1:=(by simp);clear hc hr;go_enter Tryz.func6,Tryz.ntmps6;go_upto_region 1 with fail
 generalize w.alloc (.cells #[.slice ac t.cols.length cc,.int .i64 t.head,.int .i64 t.foot,.slice ar t.rows.length cr,.int .i64 t.gap] 26)=W1 at HK0 HX HT hs1 ⊢;have b0:W1.cell? ⟨w.heap.size,0,none⟩=some (.slice ac t.cols.length cc):=zf HX.out;have b1:W1.cell? ⟨w.heap.size,1,none⟩=some (.int .i64 t.head):=zf HX.out;have b2:W1.cell? ⟨w.heap.size,2,none⟩=some (.int .i64 t.foot):=zf HX.out;have b3:W1.cell? ⟨w.heap.size,3,none⟩=some (.slice ar t.rows.length cr):=zf HX.out;have b4:W1.cell? ⟨w.heap.size,4,none⟩=some (.int .i64 t.gap):=zf HX.out;have KM:=Hd (z4m ac ar cc cr t width _ HT.out.1 HT.out.2)
 cases hmay:(zC t && inB width 0 300) with
 | false =>
  have HW:Hid (z5E t width=[]):=(by rw [Hid,z5E,if_neg (by rw [hmay];simp)]);rw [hmay] at KM;clear hmay;go_wp2_with fail
  refine KM.out.mono ?_;rintro e w2 ⟨rfl,hb2⟩;have HK2:=Hd (zh HK0.out hb2);clear hb2 KM b0 b1 b2 b3 b4;go_wp2;go_ret;exact ⟨_,rfl,by rw [HW.out];exact .inl ⟨rfl,rfl⟩,HK2.out⟩
 | true =>
  have HW:Hid (z5E t width=z0d t width):=(by rw [Hid,z5E,if_pos hmay]);rw [hmay] at KM;rw [Bool.and_eq_true] at hmay;obtain ⟨htk,hin⟩:=hmay;have hw:0≤width∧width≤300:=(by simpa [inB] using hin);obtain ⟨hC1,hC88,hacr,ha0,ha1,hall⟩:=z4K hD htk;have hlen:=z1e t;have HrV:Hid (z0v t width=width - z1H (zv t) t.gap):=(by rw [Hid,hacr];rfl);have HA:=Hd (fun W v (h:zu W v (zv t))=>z5D v (zv t) t.gap W h);generalize z1H (zv t) t.gap=A at HrV HA ha0 ha1 hacr;clear hacr;go_wp2_with fail
  refine KM.out.mono ?_;rintro e w2 ⟨rfl,hb2⟩;have X2:=(hb2.block w.heap.size (by omega)).trans HX.out;have HK2:=Hd (zh HK0.out hb2);have hz2:w.heap.size+1≤w2.heap.size:=(by have:=hb2.size;omega);clear hb2 KM b0 b1 b2 b3 b4 HX HT;have b0:w2.cell? ⟨w.heap.size,0,none⟩=some (.slice ac t.cols.length cc):=zf X2;have b1:w2.cell? ⟨w.heap.size,1,none⟩=some (.int .i64 t.head):=zf X2;have b2:w2.cell? ⟨w.heap.size,2,none⟩=some (.int .i64 t.foot):=zf X2;have b3:w2.cell? ⟨w.heap.size,3,none⟩=some (.slice ar t.rows.length cr):=zf X2;have b4:w2.cell? ⟨w.heap.size,4,none⟩=some (.int .i64 t.gap):=zf X2;have HX2:=Hd X2;clear X2;go_wp2_with fail
  refine (z8i ac ar cc cr t hD _ (HT0.out.1.kept HK2.out) (HT0.out.2.kept HK2.out)).mono ?_;rintro e w3 ⟨v3,rfl,hR3,hb3⟩;obtain ⟨g,cap,e3,hgB,hgD,hgw,hc1,hc2,_,_⟩:=hR3.get (i:=0) (by omega);subst e3;have X3:=(hb3.block w.heap.size (by omega)).trans HX2.out;have HK3:=Hd (zh HK2.out hb3);have HR3:=Hd hR3;have hz3:=hb3.size;clear hb3 b0 b1 b2 b3 b4 HX2 HK2 hR3;go_upto_region 4 with fail
  rw [hlen] at HR3;have l3:w.heap.size < w3.heap.size:=(by omega);have hne:=z0t w3;have m0:=zi (a:=⟨w.heap.size,0,none⟩) l3 (zf (p:=0) X3);have m1:=zi (a:=⟨w.heap.size,1,none⟩) l3 (zf (p:=1) X3);have m2:=zi (a:=⟨w.heap.size,2,none⟩) l3 (zf (p:=2) X3);have m3:=zi (a:=⟨w.heap.size,3,none⟩) l3 (zf (p:=3) X3);have m4:=zi (a:=⟨w.heap.size,4,none⟩) l3 (zf (p:=4) X3);have KA:=Hd (fun (p:BW w3)=>z1s (HA.out p.u _ (HR3.out.at.kept p.h)));refine zaL 10 1 hmx (by rfl) (by rfl) (by kernel_rfl) (by kernel_rfl) (by kernel_rfl) ?_;simp only [List.take_succ_cons,List.take_zero];repeat (go_big_quiet_step (first | (go_at_call 22;refine KA.out _)))
  refine wpQuiet_nil ?_;intro W5 hw';obtain ⟨⟨Wx,hW5⟩,hw''⟩:=hw';subst hw'';have X5:=(hW5.block w.heap.size l3).trans X3;have HK5:=Hd (zh HK3.out hW5);have HR5:=Hd (HR3.out.kept (fun j h0 _ _=>hW5.block j h0));have hz5:=hW5.size;have HS5:=Hd (zj W5 (.cells #[.slice ac t.cols.length cc,.int .i64 t.head,.int .i64 t.foot,.slice ar t.rows.length cr,.int .i64 t.gap,.int .i64 width,.slice (some ⟨g,0,none⟩) (zA t) cap,.int .i64 (width - A)] 57));clear m0 m1 m2 m3 m4 hne hW5 X3 HR3 HK3 KA X5;rw [if_pos (by rfl)];go_simp;refine wpAny_ready (rs:=[11]) (by kernel_rfl) (by simp) ?_;refine AllReady.cons rfl (fun K hK=>?_) AllReady.nil;go_simp;refine hK _ _ ?_;clear hK K;refine wpAny_done (by kernel_rfl) ?_ _;have HS6:=Hd (SpS.mk (w0:=w) (D:=W5.heap.size) (ze HK5.out _) HS5.out ((HR5.out.kept (w':=W5.alloc (.cells #[.slice ac t.cols.length cc,.int .i64 t.head,.int .i64 t.foot,.slice ar t.rows.length cr,.int .i64 t.gap,.int .i64 width,.slice (some ⟨g,0,none⟩) (zA t) cap,.int .i64 (width - A)] 57)) (fun j h0 _ _=>Below.heap_alloc _ _ _ h0)).base (by omega) (by omega)));rw [← HrV.out] at HS6 ⊢;have hg0:w.heap.size≤g:=(by omega);have hgD5:g < W5.heap.size:=(by omega);have hs6:(W5.alloc (.cells #[.slice ac t.cols.length cc,.int .i64 t.head,.int .i64 t.foot,.slice ar t.rows.length cr,.int .i64 t.gap,.int .i64 width,.slice (some ⟨g,0,none⟩) (zA t) cap,.int .i64 (z0v t width)] 57)).heap.size=W5.heap.size+1:=(by simp);generalize W5.alloc (.cells #[.slice ac t.cols.length cc,.int .i64 t.head,.int .i64 t.foot,.slice ar t.rows.length cr,.int .i64 t.gap,.int .i64 width,.slice (some ⟨g,0,none⟩) (zA t) cap,.int .i64 (z0v t width)] 57)=W6 at HS6 hs6 ⊢;generalize W5.heap.size=sb at HS6 hs6 hgD5 ⊢;clear HS5 HR5 HK5 hz5;go_upto_region 6 with fail
  have HS7:=Hd (HS6.out.kept (ze (Below.refl W6.heap.size W6) (.cells #[.func (.func 23) #[.pointer (some ⟨sb,0,none⟩)] #[],.func (.func 24) #[.pointer (some ⟨sb,0,none⟩)] #[],.func (.func 25) #[.pointer (some ⟨sb,0,none⟩)] #[]] 1)));have HF7:=Hd (zj W6 (.cells #[.func (.func 23) #[.pointer (some ⟨sb,0,none⟩)] #[],.func (.func 24) #[.pointer (some ⟨sb,0,none⟩)] #[],.func (.func 25) #[.pointer (some ⟨sb,0,none⟩)] #[]] 1));rw [hs6] at HF7;generalize W6.alloc (.cells #[.func (.func 23) #[.pointer (some ⟨sb,0,none⟩)] #[],.func (.func 24) #[.pointer (some ⟨sb,0,none⟩)] #[],.func (.func 25) #[.pointer (some ⟨sb,0,none⟩)] #[]] 1)=W7 at HS7 HF7 ⊢;clear HS6 hs6;have HWno:=Hd (fun h=>zgJ (t:=t) (width:=width) h);have HW1:=Hd (fun h=>zj9 hD htk hw hC88 h);have HW2:=Hd (fun h=>zen hD htk hw hC88 h);have HWr:=Hd (fun h=>z9h (t:=t) (width:=width) h);have HSt:=Hd (fun h=>z3T hD htk hw h);have HSm:=Hd (fun h=>za9 hD htk hw h);have HOw:=Hd (fun h (j:Nat) (hj:j < zA t) (hP:zm t 0 j=true)=>zgK hD htk hw h hj hP);go_wp2_with fail
  go_loopw [36] (fun s W=>∃ (k:Nat) (left:Int) (L:List Int),s=.int .i64 k∧k≤3∧Hid (SpS w sb ac ar cc cr t width g cap (zA t) sb left L W)∧Hid (W.heap[sb+1]?=some (.cells #[.func (.func 23) #[.pointer (some ⟨sb,0,none⟩)] #[],.func (.func 24) #[.pointer (some ⟨sb,0,none⟩)] #[],.func (.func 25) #[.pointer (some ⟨sb,0,none⟩)] #[]] 1))∧Hid (zac t width k left L)) (fun s _=>3 - (intOf s).toNat)
  case atStart=>exact ⟨0,_,_,rfl,Nat.zero_le _,HS7,HF7,.inl ⟨rfl,rfl,rfl⟩⟩
  case round =>
   obtain ⟨k,left,L,rfl,hk,HS,HF,HC⟩:=hrel;have s7:wr.cell? ⟨sb,7,none⟩=some (.int .i64 left):=zf (p:=7) HS.out.sp;have s6:wr.cell? ⟨sb,6,none⟩=some (.slice (some ⟨g,0,none⟩) (zA t) cap):=zf (p:=6) HS.out.sp;have f0:wr.cell? ⟨sb+1,0,none⟩=some (.func (.func 23) #[.pointer (some ⟨sb,0,none⟩)] #[]):=zf (p:=0) HF.out;have f1:wr.cell? ⟨sb+1,1,none⟩=some (.func (.func 24) #[.pointer (some ⟨sb,0,none⟩)] #[]):=zf (p:=1) HF.out;have f2:wr.cell? ⟨sb+1,2,none⟩=some (.func (.func 25) #[.pointer (some ⟨sb,0,none⟩)] #[]):=zf (p:=2) HF.out;by_cases hk3:k=3
   ·subst hk3;have HL:=Hd (zkb HC.out);go_wp2;go_ret;exact ⟨_,rfl,by rw [HW.out,← HL.out];exact HS.out.row.base (Nat.le_refl _) (Nat.le_of_lt HS.out.sp.lt),HS.out.bel⟩
   by_cases hpos:0 < left
   case neg =>
    have HN:=Hd (zja HC.out hpos (by omega) HWno.out HW1.out HW2.out)
    rcases (by omega:k=0∨k=1∨k=2) with rfl | rfl | rfl
    all_goals
     go_wp2;go_roundw
     case rel=>exact ⟨_,left,L,by go_num,by omega,HS,HF,HN⟩
     case measure=>simp [intOf]
   case pos =>
    obtain ⟨hV,hst⟩:=zi4 HC.out hpos (by omega);clear HC
    rcases hst with ⟨rfl,rfl,rfl⟩ | ⟨rfl,rfl,rfl⟩ | ⟨rfl,rfl,rfl⟩
    ·have hst:=HSt.out hV;have HKe:=Hd (zdH w sb ac ar cc cr t width g cap (zA t) sb (z0v t width) (zv t) HT0.out.1 hC88 rfl hlen hall hg0 hgD5 (Nat.le_refl _) hw hst.1 wr HS.out);clear hst;go_wp2_with (go_at_call 23;refine HKe.out.mono ?_;rintro e w8 ⟨rfl,hS8,hb8⟩;replace HF:=Hd ((hb8.block (sb+1) (bL HF.out) (by omega) (by omega)).trans HF.out);clear hb8 HKe s6 s7 f0 f1 f2)
     go_roundw
     case rel=>exact ⟨1,_,_,by go_num,by omega,hS8,HF,.inr (.inl ⟨rfl,.inl ⟨hV,rfl,rfl⟩⟩)⟩
     case measure=>simp [intOf]
    ·have hst:=HSt.out hV;have HKe:=Hd (zd7 w sb ac ar cc cr t width g cap (zA t) sb (z1D t width) (z0P t width) hD HT0.out.1 HT0.out.2 (HOw.out hV) hC88 rfl hst.2.2.2.1 (HSm.out hV).1 hg0 hgD5 (Nat.le_refl _) hst.2.1 wr HS.out);clear hst;go_wp2_with (go_at_call 24;refine HKe.out.mono ?_;rintro e w8 ⟨rfl,hS8,hb8⟩;replace HF:=Hd ((hb8.block (sb+1) (bL HF.out) (by omega) (by omega)).trans HF.out);clear hb8 HKe s6 s7 f0 f1 f2)
     go_roundw
     case rel=>exact ⟨2,_,_,by go_num,by omega,hS8,HF,.inr (.inr (.inl ⟨rfl,.inl ⟨hV,rfl,rfl⟩⟩))⟩
     case measure=>simp [intOf]
    ·have hst:=HSt.out hV;have HKe:=Hd (zbU w sb ac ar cc cr t width g cap (zA t) sb (z1E t width) (z1N t width) HT0.out.1 hC88 hst.2.2.2.2.1 (HSm.out hV).2 hg0 hgD5 (Nat.le_refl _) (by have:=hst.2.2.1;omega) wr HS.out);clear hst;go_wp2_with (go_at_call 25;refine HKe.out.mono ?_;rintro e w8 ⟨rfl,⟨left8,hS8⟩,hb8⟩;replace HF:=Hd ((hb8.block (sb+1) (bL HF.out) (by omega) (by omega)).trans HF.out);clear hb8 HKe s6 s7 f0 f1 f2)
     go_roundw
     case rel=>exact ⟨3,_,_,by go_num,by omega,hS8,HF,.inr (.inr (.inr ⟨rfl,(HWr.out hV).symm⟩))⟩
     case measure=>simp [intOf]
end
section
open Go.RowKit
theorem zad (ac ar:Option Addr) (cc cr:Nat) (t:T) (x:GC) {C:Nat} (hx:Cel t C x) (w:World) {z:Nat} (hr:z01 w z (.slice ar t.rows.length cr) t.rows) :
  Calls Tryz.prog 89 #[.agg #[.slice ac t.cols.length cc,.int .i64 t.head,.int .i64 t.foot,.slice ar t.rows.length cr,.int .i64 t.gap],.agg #[.int .i64 x.row,.int .i64 x.col,.int .i64 x.rows,.int .i64 x.cols,.int .i64 x.ins]] w fun e w'=>e=.returned (.string (zI t x))∧(zI t x).size≤maxLen∧Below w.heap.size w w':=by
 obtain ⟨rn,jn,cn,mn,e1,e2,e3,e4,h1,h2,h3,h4,h5⟩:=hx.ex;have HTx:Hid (zI t x=((t.rows.getD rn dR).cells.getD jn dC).s):=(by rw [Hid,zI,e1,e2,Int.toNat_natCast,Int.toNat_natCast]);have K1:=ze (Below.refl w.heap.size w) (.cells #[.slice ac t.cols.length cc,.int .i64 t.head,.int .i64 t.foot,.slice ar t.rows.length cr,.int .i64 t.gap] 26);have X1:=zj w (.cells #[.slice ac t.cols.length cc,.int .i64 t.head,.int .i64 t.foot,.slice ar t.rows.length cr,.int .i64 t.gap] 26);have hs1:(w.alloc (.cells #[.slice ac t.cols.length cc,.int .i64 t.head,.int .i64 t.foot,.slice ar t.rows.length cr,.int .i64 t.gap] 26)).heap.size=w.heap.size+1:=(by simp);rw [e1,e2];clear e1 e2 e3 e4;go_enter Tryz.func89,Tryz.ntmps89;go_upto_region 1 with fail
 have K2:=ze K1 (.cells #[.int .i64 (rn:Int),.int .i64 x.col,.int .i64 x.rows,.int .i64 x.cols,.int .i64 (jn:Int)] 112);have X2:=zj (w.alloc (.cells #[.slice ac t.cols.length cc,.int .i64 t.head,.int .i64 t.foot,.slice ar t.rows.length cr,.int .i64 t.gap] 26)) (.cells #[.int .i64 (rn:Int),.int .i64 x.col,.int .i64 x.rows,.int .i64 x.cols,.int .i64 (jn:Int)] 112);have X1':=(Below.heap_alloc (w.alloc (.cells #[.slice ac t.cols.length cc,.int .i64 t.head,.int .i64 t.foot,.slice ar t.rows.length cr,.int .i64 t.gap] 26)) (.cells #[.int .i64 (rn:Int),.int .i64 x.col,.int .i64 x.rows,.int .i64 x.cols,.int .i64 (jn:Int)] 112) w.heap.size (by omega)).trans X1;rw [hs1] at X2;generalize (w.alloc (.cells #[.slice ac t.cols.length cc,.int .i64 t.head,.int .i64 t.foot,.slice ar t.rows.length cr,.int .i64 t.gap] 26)).alloc (.cells #[.int .i64 (rn:Int),.int .i64 x.col,.int .i64 x.rows,.int .i64 x.cols,.int .i64 (jn:Int)] 112)=W at K2 X2 X1' ⊢;obtain ⟨rb,roff,rcap,re,rc1,rc2,rbl,u,hu0,_,hu⟩:=At.get (hr.kept K2) h1;simp only [Value.slice.injEq,true_and] at re;obtain ⟨rfl,rfl⟩:=re;obtain ⟨qb,qoff,qcap,qe,qc1,qc2,qbl,hv,hsl⟩:=At.get hu h2;subst qe;have v0:=hv.1;have q3:=zf (p:=3) X1';have q0:=zf (p:=0) X2;have q4:=zf (p:=4) X2;have HSZ:Hid ((zI t x).size≤maxLen):=(by rw [Hid,HTx.out];exact hsl);have HK:=Hd K2;unfold maxLen at rc2 qc2;generalize (t.rows.getD rn dR).cells.getD jn dC=y at v0 hsl HTx;generalize (t.rows.getD rn dR).cells.length=rl at hu0 h2 qc1;clear hu hv hr h3 h4 h5 hx K1 X1 hs1 K2 X2 X1';go_quiet (fail)
 go_wp2;go_ret;exact ⟨by rw [HTx.out];rfl,HSZ.out,z3V HK.out nq⟩
theorem zf3 (a b:Int) (w:World):Calls Tryz.prog 69 #[.int .i64 a,.int .i64 b] w fun e w'=>e=.returned (.int .i64 (max a b))∧w'=w:=by
 by_cases h:b < a
 ·have e:max a b=a:=(by omega);rw [e];go_enter Tryz.func69,Tryz.ntmps69;go_wp2;go_ret;exact ⟨rfl,rfl⟩
 ·have e:max a b=b:=(by omega);rw [e];go_enter Tryz.func69,Tryz.ntmps69;go_wp2;go_ret;exact ⟨rfl,rfl⟩
theorem zd9 {l:List W30} {k:Nat} (h:k < l.length):z0w (l.take (k+1))=max (z0w (l.take k)) l[k].1.size:=by
 rw [List.take_succ_eq_append_getElem h,z87]
theorem zda (s:ByteArray) (hs:s.size≤maxLen) (w:World) :
  Calls Tryz.prog 135 #[.string s] w fun e w'=>e=.returned (.int .i64 (z0w (zP s)))∧Below w.heap.size w w':=by
 have hlen:=z5P s;have HW:=Hd (z85 s hs);generalize zP s=l at HW hlen ⊢;go_enter Tryz.func135,Tryz.ntmps135;go_wp2_with fail
 refine (HW.out _).mono ?_;rintro e w1 ⟨v,rfl,hv,hb⟩;have HV:=Hd hv;have HB:=Hd hb;obtain ⟨a,cap,rfl⟩:=z9R hv;clear hv hb;go_wp2_with fail
 go_loop [4,5] (fun n i=>∃ k:Nat,k≤l.length∧i=.int .i64 k∧n=.int .i64 (z0w (l.take k))) (fun _ i=>l.length - (intOf i).toNat)
 case atStart=>exact ⟨0,Nat.zero_le _,rfl,rfl⟩
 case round =>
  obtain ⟨k,hk,rfl,rfl⟩:=hrel;by_cases hlt:k < l.length
  ·obtain ⟨g,cap',e',h1,h2,hx⟩:=zek HV.out hlt;simp only [Value.slice.injEq,true_and] at e';obtain ⟨rfl,rfl⟩:=e';have HS:=Hd (zd9 hlt);have h3:=l[k].2;have h4:=z4U (l.take k);generalize l[k]=x at hx HS h3;unfold maxLen at h2;go_wp2_with (go_at_call 69;refine (zf3 _ _ _).mono ?_;rintro e w' ⟨rfl,rfl⟩)
   go_round
   case rel=>exact ⟨k+1,by omega,by go_num,by rw [HS.out];go_num⟩
   case measure=>simp [intOf];omega
  ·obtain rfl:k=l.length:=by omega
   go_wp2;go_ret;exact ⟨rfl,HB.out⟩
end
section
open Go.RowKit Go.BigFrame
def NdW (W2:World) (D:Nat) (v:Value) (L:List Int) (cb:Nat) (bx:Obj) (W:World):Prop:=Below W2.heap.size W2 W∧zq W W2.heap.size D v L∧W.heap[cb]?=some bx
theorem NdW.kept {W2 W W':World} {D cb:Nat} {v:Value} {L:List Int} {bx:Obj} (h:NdW W2 D v L cb bx W) (hb:Below W.heap.size W W'):NdW W2 D v L cb bx W' :=
 ⟨h.1.trans (hb.mono h.1.size),h.2.1.kept (fun j h0 _ _=>hb.block j h0),(hb.block cb (bL h.2.2)).trans h.2.2⟩
theorem z6X (bb:Bool) (p:ByteArray→Int) (hp:(bb=true∧p=fun s=>((z0w (zP s):Nat):Int))∨(bb=false∧p=fun s=>((z2r s:Nat):Int))) (ac ar:Option Addr) (cc cr:Nat) (t:T) (hD:z0g t) (ag:Option Addr) (cg:Nat) (w:World) {z zg:Nat} (hr:z01 w z (.slice ar t.rows.length cr) t.rows) (hg:z1I w zg (.slice ag (gOf t).cells.length cg) (gOf t).cells) (C:Nat) (hgc:(gOf t).cols=C) (hC1:1≤C) (a0:Option Addr) (c0:Nat) (h0:zu w (.slice a0 C c0) (zS C)) :
  Calls Tryz.prog 108 #[.agg #[.slice ac t.cols.length cc,.int .i64 t.head,.int .i64 t.foot,.slice ar t.rows.length cr,.int .i64 t.gap],.agg #[.int .i64 (gOf t).rows,.int .i64 (gOf t).cols,.slice ag (gOf t).cells.length cg],.bool bb,.slice a0 C c0] w fun e w'=>∃ v,e=.returned v∧zq w' w.heap.size w'.heap.size v (z0I (fun x=>p (zI t x)) t.gap (gOf t).cells (zS C) 4)∧Below w.heap.size w w':=by
 obtain ⟨i0,hi0,hz0,hz1,hz2⟩:=info_parts zdb;obtain ⟨h40,C',hgc',hC88,hcel⟩:=z2Z hD;obtain rfl:C'=C:=by rw [hgc'] at hgc;omega
 have hzl:(zS C').length=C':=(by simp [zS])
 have hq:∀ s,0≤p s∧p s≤30:=fun s=>by
  rcases hp with ⟨_,rfl⟩ | ⟨_,rfl⟩
  ·have:=z4U (zP s);show 0≤((z0w (zP s):Nat):Int)∧((z0w (zP s):Nat):Int)≤30;omega
  ·have:=z8a s;show 0≤((z2r s:Nat):Int)∧((z2r s:Nat):Int)≤30;omega
 obtain ⟨P,hP⟩:∃ P:GC→Int,P=fun x=>p (zI t x):=⟨_,rfl⟩;have hpl:∀ x:GC,P x≤30:=fun x=>by rw [hP];exact (hq _).2
 have hpl0:∀ x:GC,0≤P x:=fun x=>by rw [hP];exact (hq _).1
 have HPx:=Hd (fun x=>show P x=p (zI t x) by rw [hP]);have HPp:=Hd hp;clear hp hq;rw [← hP];clear hP;have HCel:=Hd hcel;have hup:=z8v (p:=P) (l:=zS C') hcel h40 hzl hpl (zax _);have hps:=fun s hs=>z8u (p:=P) (s:=((s+1:Nat):Int)) (l:=z0I P t.gap (gOf t).cells (zS C') s) hcel (by rw [z3p];exact hzl) hpl (hup s hs);have HPs:=Hd hps;have hmx:Tryz.prog.follows .mixedOrders=true:=(by kernel_rfl);obtain ⟨b0,off0,cap0,e0,_,_,hbw0,_⟩:=h0.get (show 0 < (zS C').length by omega);simp only [Value.slice.injEq,hzl,true_and] at e0;obtain ⟨rfl,rfl⟩:=e0;obtain ⟨W1,hW1⟩:∃ W1,w.alloc (.cells #[.slice ac t.cols.length cc,.int .i64 t.head,.int .i64 t.foot,.slice ar t.rows.length cr,.int .i64 t.gap] 26)=W1:=⟨_,rfl⟩;have hs1:W1.heap.size=w.heap.size+1:=(by rw [← hW1];simp);have K1:Below w.heap.size w W1:=(by rw [← hW1];exact ze (Below.refl _ _) _);have X1:W1.heap[w.heap.size]?=some (.cells #[.slice ac t.cols.length cc,.int .i64 t.head,.int .i64 t.foot,.slice ar t.rows.length cr,.int .i64 t.gap] 26):=(by rw [← hW1];exact zj _ _);obtain ⟨W2,hW2⟩:∃ W2,W1.alloc (.cells #[.int .i64 (gOf t).rows,.int .i64 (gOf t).cols,.slice ag (gOf t).cells.length cg] 63)=W2:=⟨_,rfl⟩;have hs2:W2.heap.size=w.heap.size+2:=(by rw [← hW2];simp [hs1]);have K2:Below w.heap.size w W2:=(by rw [← hW2];exact ze K1 _);have X2:W2.heap[w.heap.size]?=some (.cells #[.slice ac t.cols.length cc,.int .i64 t.head,.int .i64 t.foot,.slice ar t.rows.length cr,.int .i64 t.gap] 26):=(by rw [← hW2];exact (Below.heap_alloc _ _ _ (by omega)).trans X1)
 have Y2:W2.heap[w.heap.size+1]?=some (.cells #[.int .i64 (gOf t).rows,.int .i64 (gOf t).cols,.slice ag (gOf t).cells.length cg] 63):=by
  have:=zj W1 (.cells #[.int .i64 (gOf t).rows,.int .i64 (gOf t).cols,.slice ag (gOf t).cells.length cg] 63);rw [hW2,hs1] at this;exact this
 have H2:=Hd (And.intro (hr.kept K2) (And.intro (hg.kept K2) (And.intro X2 Y2)));have HI2:=Hd (h0.kept K2);have HK2:=Hd K2;clear hr hg h0 X1 K1 X2 Y2 K2 hcel hup hps hD hgc hgc';go_enter Tryz.func108,Tryz.ntmps108;go_upto_region 1 with fail
 clear hW1 hW2 W1 hs1;have HS2:=Hd hs2;clear hs2;go_wp2_with (at_builtin;refine wpList_append_own_at _ rfl _ _ 36 rfl W2.heap.size 3 i0 (.int .i64 0) 1 8 Tryz.underlying36 hi0 hz0 hz1 hz2 rfl (by decide) _ 0 [] rfl (World.ownsRow_made (base:=W2.heap.size) (e:=3) (size:=1) W2 #[] 0 (Nat.le_refl _) (Nat.zero_le _) rfl) ⟨b0,off0,none⟩ C' c0 ((zS C').map (Value.int .i64)) rfl ?e1 (z8h HI2.out (ze (Below.refl _ _) _)) (zaK _) ?e4 ?e5 ?e6 ?_)
 case e1=>simp [zS]
 case e4=>unfold maxLen;omega
 case e5=>omega
 case e6=>simp
 intro v3 w3 ho3 hg3 _ _;have R3:=Hd (zq.of_owns (l:=zS C') (by simpa [zS] using ho3))
 have K3:Hid (Below W2.heap.size W2 w3):=(ze (Below.refl W2.heap.size W2) (.cells #[] 3)).grown hg3 (by simp) (fun q hq=>by
  have:q=W2.heap.size:=(by simpa [Value.ownBlock] using hq.symm)
  omega)
 obtain ⟨a3,c3,rfl⟩:=R3.out.form;rw [hzl] at R3 ⊢;clear ho3 hg3 HI2;go_wp2_with fail
 go_loopw [10] (fun s W=>∃ m:Nat,s=.int .i64 ((m:Int)+1)∧m≤4∧Hid (zq W W2.heap.size w3.heap.size (.slice a3 C' c3) (z0I P t.gap (gOf t).cells (zS C') m))∧Hid (Below W2.heap.size W2 W)∧w3.heap.size≤W.heap.size) (fun s _=>5 - (intOf s).toNat)
 case atStart=>exact ⟨0,rfl,by omega,R3,K3,Nat.le_refl _⟩
 case round =>
  clear R3 K3;obtain ⟨m,rfl,hm,HR,HB,hsz⟩:=hrel;by_cases hlt:m < 4
  case neg =>
   obtain rfl:m=4:=by omega
   have HF:=Hd (HR.out.base (B':=w.heap.size) (D':=wr.heap.size) (by rw [HS2.out];omega) hsz);have HK:=Hd (HK2.out.trans (HB.out.mono (by rw [HS2.out];omega)));go_wp2;go_ret;exact ⟨_,rfl,HF.out,HK.out⟩
  have HUm:=Hd (HPs.out m (by omega) (by omega));go_wp2_with fail
  rw [show decide ((m:Int)+1≤4)=true by simp;omega];go_loopw [11] (fun s W=>∃ k:Nat,s=.int .i64 k∧k≤(gOf t).cells.length∧Hid (zq W W2.heap.size w3.heap.size (.slice a3 C' c3) (z1x P t.gap ((m+1:Nat):Int) (gOf t).cells (z0I P t.gap (gOf t).cells (zS C') m) k))∧Hid (Below W2.heap.size W2 W)∧w3.heap.size≤W.heap.size) (fun s _=>(gOf t).cells.length - (intOf s).toNat)
  case atStart=>exact ⟨0,rfl,Nat.zero_le _,HR,HB,hsz⟩
  case round=>as_aux_lemma =>
   clear HR HB hsz;obtain ⟨k,rfl,hk,HR,HB,hsz⟩:=hrel;have Y:=Hd ((HB.out.block (w.heap.size+1) (by rw [HS2.out];omega)).trans H2.out.2.2.2);have y2:wr.cell? ⟨w.heap.size+1,2,none⟩=some (.slice ag (gOf t).cells.length cg):=zf Y.out;have hyw:w.heap.size+1 < wr.heap.size:=(bL Y.out);by_cases hkl:k < (gOf t).cells.length
   case neg =>
    obtain rfl:k=(gOf t).cells.length:=by omega
    clear Y;go_wp2;go_roundw
    case rel=>exact ⟨m+1,by go_num,by omega,HR,HB,hsz⟩
    case measure=>simp [intOf];omega
   obtain ⟨b,off,cap',e',hc1,hc2,hbl,hx,_⟩:=At.get (H2.out.2.1.kept HB.out) hkl;simp only [Value.slice.injEq,true_and] at e';obtain ⟨rfl,rfl⟩:=e';unfold maxLen at hc2;have HCe:=Hd (HCel.out k hkl);have HSz:=Hd (z6w HCe.out (H2.out.1.kept HB.out));obtain ⟨⟨rn,jn,cn,mn,e1,e2,e3,e4,h1,h2,h3,h4,h5⟩,hgp,hrs⟩:=HCel.out k hkl;have hub:=HUm.out k hk;have HNo:Hid ((mn:Int) ≠ ((m+1:Nat):Int)→z1x P t.gap ((m+1:Nat):Int) (gOf t).cells (z0I P t.gap (gOf t).cells (zS C') m) (k+1)=z1x P t.gap ((m+1:Nat):Int) (gOf t).cells (z0I P t.gap (gOf t).cells (zS C') m) k):=fun h=>by rw [z1x,if_neg (by rw [e4];exact h)]
   have HYes:Hid ((mn:Int)=((m+1:Nat):Int)→z1x P t.gap ((m+1:Nat):Int) (gOf t).cells (z0I P t.gap (gOf t).cells (zS C') m) (k+1)=z34 (z1x P t.gap ((m+1:Nat):Int) (gOf t).cells (z0I P t.gap (gOf t).cells (zS C') m) k) cn mn t.gap (P ((gOf t).cells.getD k dG))):=fun h=>by rw [z1x,if_pos (by rw [e4];exact h),e3,e4,Int.toNat_natCast,Int.toNat_natCast]
   have hll:=z41 P t.gap ((m+1:Nat):Int) (gOf t).cells (z0I P t.gap (gOf t).cells (zS C') m) k;rw [z3p,hzl] at hll;generalize (gOf t).cells.getD k dG=x at hx e1 e2 e3 e4 HYes hrs HCe HSz;generalize hL:z1x P t.gap ((m+1:Nat):Int) (gOf t).cells (z0I P t.gap (gOf t).cells (zS C') m) k=L at HR HNo HYes hub hll;clear hL;have HKT:=Hd (fun (W:World) (hR:z01 W z (.slice ar t.rows.length cr) t.rows)=>zad ac ar cc cr t x HCe.out W hR);simp only [e1,e2,e3,e4] at HKT;obtain ⟨x0,x1,x2,x3,x4⟩:=hx;rw [e1] at x0;rw [e2] at x4;rw [e3] at x1;rw [e4] at x3;by_cases hms:(mn:Int)=(m:Int)+1
   case neg =>
    have hmb:((mn:Int) != (m:Int)+1)=true:=(by simpa using hms);have HL:=Hd (HNo.out (by omega));clear HNo HYes e1 e2 e3 e4 hms Y;go_wp2;go_roundw
    case rel=>exact ⟨k+1,by go_num,by omega,by rw [HL.out];exact HR.out.kept (fun j h0 _ _=>Below.heap_alloc _ _ _ h0),ze HB.out _,by simp;omega⟩
    case measure=>simp [intOf];omega
   obtain rfl:mn=m+1:=by omega
   have HL:=Hd (HYes.out rfl);have hmb:((m:Int)+1 != (m:Int)+1)=false:=(by simp);have hcast:((m+1:Nat):Int)=(m:Int)+1:=(by omega);rw [hcast] at x3;simp only [hcast] at HKT;clear HNo HYes e1 e2 e3 e4 hms hcast;go_upto_region 10 with fail
   have HN4:Hid (NdW W2 w3.heap.size (.slice a3 C' c3) L wr.heap.size (.cells #[.int .i64 (rn:Int),.int .i64 (cn:Int),.int .i64 x.rows,.int .i64 ((m:Int)+1),.int .i64 (jn:Int)] 112) (wr.alloc (.cells #[.int .i64 (rn:Int),.int .i64 (cn:Int),.int .i64 x.rows,.int .i64 ((m:Int)+1),.int .i64 (jn:Int)] 112))):=⟨ze HB.out _,HR.out.kept (fun j h0 _ _=>Below.heap_alloc _ _ _ h0),zj _ _⟩;have hsz4:w3.heap.size≤(wr.alloc (.cells #[.int .i64 (rn:Int),.int .i64 (cn:Int),.int .i64 x.rows,.int .i64 ((m:Int)+1),.int .i64 (jn:Int)] 112)).heap.size:=(by simp;omega);generalize wr.alloc (.cells #[.int .i64 (rn:Int),.int .i64 (cn:Int),.int .i64 x.rows,.int .i64 ((m:Int)+1),.int .i64 (jn:Int)] 112)=W4 at HN4 hsz4 ⊢;have HCz:Hid (w3.heap.size≤wr.heap.size):=hsz;generalize wr.heap.size=cb at HN4 HCz ⊢;clear Y HR HB hsz x0 x1 x2 x3 x4 hbl y2 hyw;have X4:=(HN4.out.1.block w.heap.size (by rw [HS2.out];omega)).trans H2.out.2.2.1;have C4:=HN4.out.2.2;have ht4:w.heap.size < W4.heap.size:=(bL X4);have hcb4:cb < W4.heap.size:=(bL C4);obtain ⟨b0,b1,b2,b3,b4⟩:W4.cell? ⟨w.heap.size,0,none⟩=some (.slice ac t.cols.length cc)∧W4.cell? ⟨w.heap.size,1,none⟩=some (.int .i64 t.head)∧W4.cell? ⟨w.heap.size,2,none⟩=some (.int .i64 t.foot)∧W4.cell? ⟨w.heap.size,3,none⟩=some (.slice ar t.rows.length cr)∧W4.cell? ⟨w.heap.size,4,none⟩=some (.int .i64 t.gap):=⟨zf X4,zf X4,zf X4,zf X4,zf X4⟩;obtain ⟨q0,q1,q2,q3,q4⟩:W4.cell? ⟨cb,0,none⟩=some (.int .i64 (rn:Int))∧W4.cell? ⟨cb,1,none⟩=some (.int .i64 (cn:Int))∧W4.cell? ⟨cb,2,none⟩=some (.int .i64 x.rows)∧W4.cell? ⟨cb,3,none⟩=some (.int .i64 ((m:Int)+1))∧W4.cell? ⟨cb,4,none⟩=some (.int .i64 (jn:Int)):=⟨zf C4,zf C4,zf C4,zf C4,zf C4⟩;clear X4 C4;go_wp2_with fail
   refine (HKT.out _ (H2.out.1.kept HN4.out.1)).mono ?_;rintro e w5 ⟨rfl,_,hb5⟩;have HN5:=Hd (HN4.out.kept hb5);have hsz5:w3.heap.size≤w5.heap.size:=Nat.le_trans hsz4 hb5.size;clear hb5 HN4 hsz4 b0 b1 b2 b3 b4 q0 q1 q2 q3 q4 ht4 hcb4;go_wp2_with fail
   refine (zdL _ HSz.out _).mono ?_;rintro e w6 ⟨rfl,rfl⟩;refine Or.elim HPp.out ?hT ?hF
   case' hT =>
    rintro ⟨rfl,rfl⟩;obtain ⟨b0,b1,b2,b3,b4⟩:=zU ((HN5.out.1.block w.heap.size (by rw [HS2.out];omega)).trans H2.out.2.2.1);obtain ⟨q0,q1,q2,q3,q4⟩:=zU HN5.out.2.2;have ht5:=(Array.getElem?_eq_some_iff.1 ((HN5.out.1.block w.heap.size (by rw [HS2.out];omega)).trans H2.out.2.2.1)).1;have hcb5:=(bL HN5.out.2.2);go_wp2_with fail
    refine (HKT.out _ (H2.out.1.kept HN5.out.1)).mono ?_;rintro e w7 ⟨rfl,_,hb7⟩;have HN7:=Hd (HN5.out.kept hb7);have hsz7:w3.heap.size≤w7.heap.size:=Nat.le_trans hsz5 hb7.size;clear hb7 HN5 hsz5 b0 b1 b2 b3 b4 q0 q1 q2 q3 q4 ht5 hcb5;go_wp2_with fail
    refine (zda _ HSz.out _).mono ?_;rintro e W8 ⟨rfl,hb8⟩;have HN8:=Hd (HN7.out.kept hb8);have hsz8:w3.heap.size≤W8.heap.size:=Nat.le_trans hsz7 hb8.size;clear hb8 HN7 hsz7;rw [← (show P x=((z0w (zP (zI t x)):Nat):Int) from HPx.out x)]
   case' hF =>
    rintro ⟨rfl,rfl⟩;generalize w6=W8 at HN5 hsz5;have HN8:=HN5;have hsz8:=hsz5;clear HN5 hsz5;rw [← (show P x=((z2r (zI t x):Nat):Int) from HPx.out x)]
   all_goals
    have hp0:=hpl0 x;have hp30:=hpl x;have HLk:Hid (z19 L cn (m+1) t.gap (P x)=P x - ((z00 L cn (m+1)).sum+t.gap * (m:Int))):=(by rw [Hid,z19,show ((m+1:Nat):Int) - 1=(m:Int) by omega]);have HOk:=Hd (fun h=>(zaw (l:=L) (c:=cn) (m:=m+1) (gap:=t.gap) (need:=P x) (fun i hi=>by have:=hub i hi;omega) (by omega) ⟨h4,h5⟩ hgp hp30 h).1);have HWn:Hid (z19 L cn (m+1) t.gap (P x)≤0→z34 L cn (m+1) t.gap (P x)=L):=fun h=>by rw [z34,if_pos h]
    have HWy:Hid (¬ z19 L cn (m+1) t.gap (P x)≤0→z34 L cn (m+1) t.gap (P x)=z2w L cn (zt (z19 L cn (m+1) t.gap (P x)) (z00 L cn (m+1))) (m+1)):=fun h=>by rw [z34,if_neg h]
    have hG:=zgl hgp hlt;have HSubF:=Hd (zgk hub (show 1200 * (m:Int)+30 * (k:Int)≤50000 by omega) hll h3 h5);have HcL:Hid (cn+(m+1)≤L.length):=(by rw [Hid,hll];exact h3);generalize P x=need at hp0 hp30 HLk HOk HWn HWy HL;go_upto_region 13 with fail
    obtain ⟨g3,cap3,eg3,hBg3,hgD3,hgw3,hc13,hc23,_,_⟩:=HN8.out.2.1.get (i:=cn) (by omega);rw [hll] at eg3;simp only [Value.slice.injEq,true_and] at eg3;obtain ⟨rfl,rfl⟩:=eg3;unfold maxLen at hc23;rw [hll] at hc13;have HBg:=Hd hBg3;have HgD:=Hd hgD3;obtain ⟨t3,t4,t5,t6,t10,t11,t12,t13⟩:=zcG (Nat.le_trans h3 hc13) (Nat.le_trans h3 hC88);obtain ⟨hwt,hsm,hsl⟩:=HSubF.out;have HSub:=Hd (HN8.out.2.1.sub (c:=cn) (m:=m+1) HcL.out (Nat.succ_le_succ (Nat.zero_le m)));have hne:=z0t W8;have hsl1:(z00 L cn (m+1)).length≤1000:=(by rw [hsl];omega);have KSm:=Hd (fun (p:BW W8)=>z1s (z0z _ (z00 L cn (m+1)) hsl1 hwt p.u (HSub.out.kept p.h)));have hcb:cb < W8.heap.size:=(bL HN8.out.2.2);have X8:=(HN8.out.1.block w.heap.size (by rw [HS2.out];omega)).trans H2.out.2.2.1;have htb:w.heap.size < W8.heap.size:=(bL X8);have g1:=zi (a:=⟨cb,1,none⟩) hcb (zf (p:=1) HN8.out.2.2);have g2:=zi (a:=⟨cb,3,none⟩) hcb (zf (p:=3) HN8.out.2.2);have g4:=zi (a:=⟨w.heap.size,4,none⟩) htb (zf (p:=4) X8);clear X8 HKT HSz HCe hwt hsl1;generalize (z00 L cn (m+1)).sum=Y at KSm HLk hsm;refine zn hmx (by kernel_rfl) ?_;repeat (go_big_quiet_step (first | (go_at_call 41;refine KSm.out _)))
    refine wpQuiet_nil ?_;intro W9 hw';obtain ⟨⟨Wx,hW9⟩,hw''⟩:=hw';subst hw'';have HN9:=Hd (HN8.out.kept hW9);have hsz9:w3.heap.size≤W9.heap.size:=Nat.le_trans hsz8 hW9.size;have HSub9:=Hd (HSub.out.kept hW9);clear g1 g2 g4 KSm HN8 hsz8 HSub hW9 hne hcb htb;by_cases hl:need≤Y+t.gap * (m:Int)
    case pos =>
     have hlb:¬ (Y+t.gap * (m:Int) < need):=(by omega);have HL2:=Hd (HL.out.trans (HWn.out (by rw [HLk.out];omega)));clear HLk HOk HWn HWy HL hl t3 t4 t5 t6 t10 t11 t12 t13;go_wp2;go_roundw
     case rel=>exact ⟨k+1,by go_num,by omega,by rw [HL2.out];exact HN9.out.2.1,HN9.out.1,hsz9⟩
     case measure=>simp [intOf];omega
    have hlb:Y+t.gap * (m:Int) < need:=(by omega);have hlk:0 < z19 L cn (m+1) t.gap need:=(by rw [HLk.out];omega);have HL2:=Hd (HL.out.trans (HWy.out (by omega)));have hok:=HOk.out hlk;have KSh:=Hd (z8W (z19 L cn (m+1) t.gap need) (.slice (some ⟨g3,cn,none⟩) (m+1) (c3 - cn)) (z00 L cn (m+1)) hok (by rw [hsl];omega) W9 HSub9.out);have HSB:=Hd (fun k hk=>z1w (t:=z19 L cn (m+1) t.gap need) (l:=z00 L cn (m+1)) k hk);have hshl:=z1r hok;rw [hsl] at hshl;rw [HLk.out] at KSh HL2 HSB hshl;clear hok hlk HOk HWn HWy HL HLk hl;generalize zt (need - (Y+t.gap * (m:Int))) (z00 L cn (m+1))=sh at KSh HL2 HSB hshl;obtain ⟨q0,q1,q2,q3,q4⟩:=zU HN9.out.2.2;have hcb:=(bL HN9.out.2.2);go_wp2_with fail
    refine KSh.out.mono ?_;rintro e w10 ⟨v10,rfl,hr10,hb10⟩;obtain ⟨a10,c10,rfl⟩:=hr10.form;rw [hshl] at hr10 ⊢;have HN10:=Hd (HN9.out.kept hb10);have HS10:=Hd hr10;have hz9:w3.heap.size≤W9.heap.size:=hsz9;have hz10:W9.heap.size≤w10.heap.size:=hb10.size;clear hr10 hb10 KSh HN9 hsz9 HSub9 q0 q1 q2 q3 q4 hcb t3 t4 t5 t6 t10 t11 t12 t13;go_wp2_with fail
    go_loopw [16] (fun s W=>∃ j:Nat,s=.int .i64 j∧j≤m+1∧Hid (NdW W2 w3.heap.size (.slice (some ⟨g3,0,none⟩) C' c3) (z2w L cn sh j) cb (.cells #[.int .i64 (rn:Int),.int .i64 (cn:Int),.int .i64 x.rows,.int .i64 ((m:Int)+1),.int .i64 (jn:Int)] 112) W)∧Hid (zq W W9.heap.size w10.heap.size (.slice a10 (m+1) c10) sh)∧w10.heap.size≤W.heap.size) (fun s _=>m+1 - (intOf s).toNat)
    case atStart=>exact ⟨0,rfl,Nat.zero_le _,HN10,HS10,Nat.le_refl _⟩
    case round=>as_aux_lemma =>
     clear HN10 HS10;obtain ⟨j,rfl,hj,HN,HS,hszj⟩:=hrel;by_cases hjm:j < m+1
     case neg =>
      obtain rfl:j=m+1:=by omega
      go_wp2;go_roundw
      case rel=>exact ⟨k+1,by go_num,by omega,by rw [HL2.out];exact HN.out.2.1,HN.out.1,by omega⟩
      case measure=>simp [intOf];omega
     obtain ⟨gs,cs,es,hBs,hDs,hgsw,hcs1,hcs2,hsx,_⟩:=HS.out.get (i:=j) (by omega);simp only [Value.slice.injEq,hshl,true_and] at es;obtain ⟨rfl,rfl⟩:=es;obtain ⟨g4,c4,ex4,_,_,hgw4,_,_,hxx,_⟩:=HN.out.2.1.get (i:=cn+j) (by rw [z3h];omega);rw [z3h,hll] at ex4;simp only [Value.slice.injEq,Option.some.injEq,Addr.mk.injEq,and_true,true_and] at ex4;have eg4:=ex4.1;clear ex4;subst eg4;rw [z6r L cn sh (i:=cn+j) j (fun i hi=>by omega)] at hxx;have hbx:0≤L.getD (cn+j) 0∧L.getD (cn+j) 0≤50000:=(by have:=hub (cn+j) (by omega);omega);have hbs:=HSB.out j (by omega);have v1:(j:Int) < (m:Int)+1:=(by omega);have v2:(j:Int) < ((m+1:Nat):Int):=(by omega);have HN2:Hid (z2w L cn sh (j+1)=(z2w L cn sh j).set (cn+j) (L.getD (cn+j) 0+sh.getD j 0)):=rfl;have HLj:Hid (cn+j < (z2w L cn sh j).length):=(by rw [Hid,z3h];omega);have HMe:Hid (m+1 - (j+1) < m+1 - j):=(by rw [Hid];omega);have HGo:Hid (W2.heap.size≤g3):=HBg.out;have HCb:Hid (cb ≠ g3):=(by rw [Hid];have h8:=HgD.out;have h9:=HCz.out;omega);have HSs:Hid (g3 < W9.heap.size):=(by rw [Hid];have:=HgD.out;omega);have HSet:=Hd (fun W (h:Below wr.heap.size wr W)=>(HN.out.kept h).2.1.set (i:=cn+j) HLj.out (L.getD (cn+j) 0+sh.getD j 0));rw [← HN2.out] at HSet;generalize L.getD (cn+j) 0=y at hxx hbx HSet;generalize sh.getD j 0=q at hsx hbs HSet;obtain ⟨u1,u2,u3,u4,u5⟩:=zgj (cn:=cn) (j:=j) (C:=C') (by omega) hC88;have hcbj:=(bL HN.out.2.2);have hne:=z0t wr;have r1:=zi (a:=⟨cb,1,none⟩) hcbj (zf (p:=1) HN.out.2.2);have r2:=zi (a:=⟨g3,cn+j,none⟩) hgw4 hxx;have r3:=zi (a:=⟨gs,j,none⟩) hgsw hsx;unfold maxLen at hcs2;have hc13':C'≤c3:=hc13;have hsum:IntKind.i64.wrap (y+q)=y+q:=z4S (by omega);have hsum2:wrap64 (y+q)=y+q:=z35 (by omega);clear HN2 hsx hxx hub hsm hG hgp hp0 hp30 hlb;go_upto_region 19 with fail
     refine z17 18 hmx (by rfl) (by rfl) (by kernel_rfl) (by kernel_rfl) ?_;simp only [List.take_succ_cons,List.take_zero];repeat (go_big_quiet_step (fail))
     refine wpQuiet_nil ?_;intro W5 hw';obtain ⟨⟨Wx,hW5⟩,hw''⟩:=hw';subst hw'';have HR5:=Hd (HSet.out _ hW5);have HN5:=Hd (HN.out.kept hW5);have HS5:=Hd (HS.out.kept (fun j h0 _ _=>hW5.block j h0));have hsz5:w10.heap.size≤W5.heap.size:=Nat.le_trans hszj hW5.size;obtain ⟨g5,c5,ex5,_,_,hgw5,_,_,hx5,hf5⟩:=HN5.out.2.1.get (i:=cn+j) HLj.out;simp only [Value.slice.injEq,Option.some.injEq,Addr.mk.injEq,and_true] at ex5;have eg5:=ex5.1;clear ex5;subst eg5;clear r1 r2 r3 HSet HN HS hW5 hne hszj;have HN6:Hid (NdW W2 w3.heap.size (.slice (some ⟨g3,0,none⟩) C' c3) (z2w L cn sh (j+1)) cb (.cells #[.int .i64 (rn:Int),.int .i64 (cn:Int),.int .i64 x.rows,.int .i64 ((m:Int)+1),.int .i64 (jn:Int)] 112) (W5.setCell ⟨g3,cn+j,none⟩ (.int .i64 (y+q)))):=⟨z2j HN5.out.1 (p:=⟨g3,cn+j,none⟩) HGo.out _,HR5.out,(Below.heap_setCell _ _ _ _ HCb.out).trans HN5.out.2.2⟩;have HS6:=Hd (HS5.out.kept (w':=W5.setCell ⟨g3,cn+j,none⟩ (.int .i64 (y+q))) (fun i _ h1 _=>Below.heap_setCell _ _ _ _ (fun e=>by have e':i=g3:=e;subst e';exact absurd h1 (Nat.not_le.2 HSs.out))));have HZ6:Hid (w10.heap.size≤(W5.setCell ⟨g3,cn+j,none⟩ (.int .i64 (y+q))).heap.size):=(by rw [Hid,z2U];exact hsz5);have HJ:Hid (j+1≤m+1):=hjm;clear HN5 HR5 HS5 hsz5;rw [if_pos (by rfl)];go_simp;clear u1 u2 u3 u4 u5 hsum hsum2;go_wp2;go_roundw
     case rel=>exact ⟨j+1,by go_num,HJ.out,HN6,HS6,HZ6.out⟩
     case measure=>simp [intOf];omega
theorem zae (r:Int) (vg:Value) (C:Nat) (hC:C≤88) (w:World) :
  Calls Tryz.prog 109 #[.agg #[.int .i64 r,.int .i64 (C:Int),vg]] w fun e w'=>∃ v,e=.returned v∧zq w' w.heap.size w'.heap.size v (zS C)∧Below w.heap.size w w':=by
 have hmk:=z5t C (by omega);have X0:=zj w (.cells #[.int .i64 r,.int .i64 (C:Int),vg] 63);have x1:(w.alloc (.cells #[.int .i64 r,.int .i64 (C:Int),vg] 63)).cell? ⟨w.heap.size,1,none⟩=some (.int .i64 (C:Int)):=zf X0;clear X0;go_enter Tryz.func109,Tryz.ntmps109;go_wp2;go_ret;have R:=z47 (w.alloc (.cells #[.int .i64 r,.int .i64 (C:Int),vg] 63)) C (by omega);refine ⟨_,rfl,?_,ze (ze (Below.refl _ _) _) _⟩;have R2:=R.base (B':=w.heap.size) (D':=w.heap.size+1+1) (by simp) (by simp)
 simpa [zS] using R2
def Ls (w:World) (z zg:Nat) (ac ar:Option Addr) (cc cr:Nat) (t:T) (ag:Option Addr) (cg:Nat) (W:World):Prop :=
 Below w.heap.size w W∧(z07 W z (.slice ac t.cols.length cc) t.cols∧z01 W z (.slice ar t.rows.length cr) t.rows)∧z1I W zg (.slice ag (gOf t).cells.length cg) (gOf t).cells∧W.heap[w.heap.size]?=some (.cells #[.slice ac t.cols.length cc,.int .i64 t.head,.int .i64 t.foot,.slice ar t.rows.length cr,.int .i64 t.gap] 26)∧W.heap[w.heap.size+1]?=some (.cells #[.int .i64 (gOf t).rows,.int .i64 (gOf t).cols,.slice ag (gOf t).cells.length cg] 63)
theorem Ls.kept {w W W':World} {z zg:Nat} {ac ar ag:Option Addr} {cc cr cg:Nat} {t:T} (h:Ls w z zg ac ar cc cr t ag cg W) (hb:Below W.heap.size W W'):Ls w z zg ac ar cc cr t ag cg W' :=
 ⟨h.1.trans (hb.mono h.1.size),⟨h.2.1.1.kept hb,h.2.1.2.kept hb⟩,h.2.2.1.kept hb,(hb.block _ (bL h.2.2.2.1)).trans h.2.2.2.1,(hb.block _ (bL h.2.2.2.2)).trans h.2.2.2.2⟩
theorem z2s {w:World} {g:Nat} {x0 x1 x2:Value} {t:TypeId} (h:w.heap[g]?=some (.cells #[x0,x1,x2] t)) :
  w.cell? ⟨g,0,none⟩=some x0∧w.cell? ⟨g,1,none⟩=some x1∧w.cell? ⟨g,2,none⟩=some x2:=⟨zf h,zf h,zf h⟩
theorem z8X (ac ar:Option Addr) (cc cr:Nat) (t:T) (hD:z0g t) (ag:Option Addr) (cg:Nat) (w:World) {z zg:Nat} (hc:z07 w z (.slice ac t.cols.length cc) t.cols) (hr:z01 w z (.slice ar t.rows.length cr) t.rows) (hg:z1I w zg (.slice ag (gOf t).cells.length cg) (gOf t).cells) (hok:zC t=true) :
  Calls Tryz.prog 61 #[.agg #[.slice ac t.cols.length cc,.int .i64 t.head,.int .i64 t.foot,.slice ar t.rows.length cr,.int .i64 t.gap],.agg #[.int .i64 (gOf t).rows,.int .i64 (gOf t).cols,.slice ag (gOf t).cells.length cg]] w fun e w'=>∃ v,e=.returned v∧zq w' w.heap.size w'.heap.size v (zv t)∧Below w.heap.size w w':=by
 obtain ⟨_,C,hgc,hC,_⟩:=z2Z hD
 have hC1:1≤C:=by
  have h1:(gOf t).cols=z0q (max 1 (t.cols.length:Int)) (zL t):=(by rw [z2q hok]);have h2:=z3I (zL t) (max 1 (t.cols.length:Int));omega
 have HCN:=Hd (z43 hgc);have HL:Hid (z1u t.cols (z1U t (z3d t)) C=zv t):=(by rw [Hid,zv,HCN.out]);have hNL:z0I (fun x=>((z0w (zP (zI t x)):Nat):Int)) t.gap (gOf t).cells (zS C) 4=z1U t (z3d t):=(by unfold z1U;rw [HCN.out];rfl);have hlen:=z2D t (z3d t);rw [HCN.out] at hlen;have HUp:=Hd (z5g hD (fun x=>(z89 t x).2));have HSd:=Hd (fun k (hk:k < C)=>z9c (t:=t) (k:=k) (by rw [HCN.out];exact hk));have hzl:(zS C).length=C:=(by simp [zS]);have hfl0:=zd1;have hfl1:=zjC;have hmx:Tryz.prog.follows .mixedOrders=true:=(by kernel_rfl);have KN:=Hd (fun W h1 h2 a0 c0 h3=>z6X true (fun s=>((z0w (zP s):Nat):Int)) (.inl ⟨rfl,rfl⟩) ac ar cc cr t hD ag cg W (z:=z) (zg:=zg) h1 h2 C hgc hC1 a0 c0 h3);have KZ:=Hd (fun W=>zae (gOf t).rows (.slice ag (gOf t).cells.length cg) C hC W);rw [← hgc] at KZ;rw [hNL] at KN;generalize z1U t (z3d t)=L at KN HL hlen HUp
 have HP:Hid (Ls w z zg ac ar cc cr t ag cg ((w.alloc (.cells #[.slice ac t.cols.length cc,.int .i64 t.head,.int .i64 t.foot,.slice ar t.rows.length cr,.int .i64 t.gap] 26)).alloc (.cells #[.int .i64 (gOf t).rows,.int .i64 (gOf t).cols,.slice ag (gOf t).cells.length cg] 63))):=by
  have K:=ze (ze (Below.refl w.heap.size w) (.cells #[.slice ac t.cols.length cc,.int .i64 t.head,.int .i64 t.foot,.slice ar t.rows.length cr,.int .i64 t.gap] 26)) (.cells #[.int .i64 (gOf t).rows,.int .i64 (gOf t).cols,.slice ag (gOf t).cells.length cg] 63);refine ⟨K,⟨hc.kept K,hr.kept K⟩,hg.kept K,(Below.heap_alloc _ _ _ (by simp)).trans (zj _ _),?_⟩;have:=zj (w.alloc (.cells #[.slice ac t.cols.length cc,.int .i64 t.head,.int .i64 t.foot,.slice ar t.rows.length cr,.int .i64 t.gap] 26)) (.cells #[.int .i64 (gOf t).rows,.int .i64 (gOf t).cols,.slice ag (gOf t).cells.length cg] 63)
  simpa using this
 clear hNL hc hr hg hD hgc hok;go_enter Tryz.func61,Tryz.ntmps61;go_upto_region 1 with fail
 generalize (w.alloc (.cells #[.slice ac t.cols.length cc,.int .i64 t.head,.int .i64 t.foot,.slice ar t.rows.length cr,.int .i64 t.gap] 26)).alloc (.cells #[.int .i64 (gOf t).rows,.int .i64 (gOf t).cols,.slice ag (gOf t).cells.length cg] 63)=W0 at HP ⊢;obtain ⟨b0,b1,b2,b3,b4⟩:=zU HP.out.2.2.2.1;obtain ⟨q0,q1,q2⟩:=z2s HP.out.2.2.2.2;have ht0:=(bL HP.out.2.2.2.1);have hg0:=(bL HP.out.2.2.2.2);go_cut [5] (fun s W=>∃ a c D,s=.slice a C c∧Hid (zq W W0.heap.size D (.slice a C c) L)∧Hid (Below W0.heap.size W0 W)∧D≤W.heap.size)
 case first=>as_aux_lemma =>
  have HPd:=Hd (HP.out.kept (z1a (Below.refl _ _)));have HBd:=Hd (z1a (Below.refl W0.heap.size W0))
  go_region_with (first
   | (go_at_call 109;refine (KZ.out _).mono ?_;rintro e w1 ⟨v1,rfl,hr1,hb1⟩;obtain ⟨a1,c1,rfl⟩:=hr1.form;rw [hzl] at hr1 ⊢;have R1:=Hd hr1.at;have P1:=Hd (HPd.out.kept hb1);have B1:=Hd (zh HBd.out hb1);clear hr1 hb1;obtain ⟨p0,p1,p2,p3,p4⟩:=zU P1.out.2.2.2.1;obtain ⟨r0,r1,r2⟩:=z2s P1.out.2.2.2.2;have ht1:=(bL P1.out.2.2.2.1);have hg1:=(bL P1.out.2.2.2.2))
   | (go_at_call 108;refine (KN.out _ P1.out.2.1.2 P1.out.2.2.1 a1 c1 R1.out).mono ?_;rintro e w2 ⟨v2,rfl,hr2,hb2⟩;obtain ⟨a2,c2,rfl⟩:=hr2.form;rw [hlen] at hr2 ⊢;have R2:=Hd (hr2.base (B':=W0.heap.size) B1.out.size (Nat.le_refl _));have B2:=Hd (zh B1.out hb2);clear hr2 hb2))
  all_goals (go_wp2_with fail;go_meet;case rel=>exact ⟨_,_,_,rfl,R2,B2,Nat.le_refl _⟩)
 case rest =>
  obtain ⟨a2,c2,D,rfl,HR0,HB0,hD0⟩:=hcut;clear b0 b1 b2 b3 b4 q0 q1 q2 hg0 KN KZ;go_wp2_with fail
  go_loopw [6] (fun s W=>∃ k:Nat,s=.int .i64 k∧k≤C∧Hid (zq W W0.heap.size D (.slice a2 C c2) (z1u t.cols L k))∧Hid (Below W0.heap.size W0 W)∧D≤W.heap.size) (fun s _=>C - (intOf s).toNat)
  case atStart=>exact ⟨0,rfl,Nat.zero_le _,HR0,HB0,hD0⟩
  case round =>
   clear HR0 HB0 hD0;obtain ⟨k,rfl,hk,HR,HB,hsz⟩:=hrel;by_cases hlt:k < C
   case neg =>
    obtain rfl:k=C:=by omega
    have HF:=Hd (HR.out.base (B':=w.heap.size) (D':=wr.heap.size) HP.out.1.size hsz);have HK:=Hd (HP.out.kept HB.out).1;go_wp2;go_ret;exact ⟨_,rfl,by rw [← HL.out];exact HF.out,HK.out⟩
   have HPr:=Hd (HP.out.kept HB.out);obtain ⟨b0,b1,b2,b3,b4⟩:=zU HPr.out.2.2.2.1;have htr:=(bL HPr.out.2.2.2.1);have KS:=Hd (z4Z ac ar cc cr t (k:Int) (by omega) wr HPr.out.2.1.1);obtain ⟨g,cap',e',hBg,hgD,hgw,hc1,hc2,hx,hf⟩:=HR.out.get (i:=k) (by rw [z1k];omega);rw [z1k,hlen] at e' hc1;simp only [Value.slice.injEq,true_and] at e';obtain ⟨rfl,rfl⟩:=e';unfold maxLen at hc2;have hxb:=HUp.out k (by omega);rw [z2C t.cols L k (Nat.le_refl _)] at hx;have hsd:=HSd.out k hlt;have HYes:Hid ((sd t.cols k).1=1→z1u t.cols L (k+1)=(z1u t.cols L k).set k (max (L.getD k 0) (sd t.cols k).2)):=fun h=>by rw [z1u,if_pos h,z2C t.cols L k (Nat.le_refl _)]
   have HNo:Hid ((sd t.cols k).1 ≠ 1→z1u t.cols L (k+1)=z1u t.cols L k):=fun h=>by rw [z1u,if_neg h]
   have KS3:=Hd (fun W h=>z4Z ac ar cc cr t (k:Int) (by omega) W (z:=z) h);generalize sd t.cols k=p at KS KS3 hsd HYes HNo;by_cases hp:p.1=1
   case neg =>
    have hpb:(p.1 == 1)=false:=(by simpa using hp);have HF:=Hd (HNo.out hp);clear HNo HYes hsd hp KS3;go_wp2_with fail
    refine KS.out.mono ?_;rintro e w3 ⟨rfl,hb3⟩;have HK3:=Hd hb3;clear hb3;go_wp2;go_roundw
    case rel=>exact ⟨k+1,by go_num,by omega,by rw [HF.out];exact HR.out.kept (fun j h0 _ _=>HK3.out.block j h0),zh HB.out HK3.out,Nat.le_trans hsz HK3.out.size⟩
    case measure=>simp [intOf];omega
   have HF:=Hd (HYes.out hp);have hq:=hsd hp;clear HNo HYes hsd;obtain ⟨p1,p2⟩:=p;obtain rfl:p1=1:=hp;have hq:0≤p2∧p2≤60:=hq;dsimp only at KS HF KS3;go_wp2_with fail
   refine KS.out.mono ?_;rintro e W3 ⟨rfl,hb3⟩;have HB3:=Hd (zh HB.out hb3);have HR3:=Hd (HR.out.kept (fun j h0 _ _=>hb3.block j h0));have HP3:=Hd (HPr.out.kept hb3);have hsz3:D≤W3.heap.size:=Nat.le_trans hsz hb3.size;clear hb3 HR HB hx hf b0 b1 b2 b3 b4 htr KS hsz HPr;go_upto_region 6 with fail
   obtain ⟨g3,cap3,e3,hBg3,hgD3,hgw3,_,_,hx3,hf3⟩:=HR3.out.get (i:=k) (by rw [z1k];omega);rw [z1k,hlen] at e3;simp only [Value.slice.injEq,Option.some.injEq,Addr.mk.injEq,and_true,true_and] at e3;have eg3:=e3.1;clear e3;subst eg3;rw [z2C t.cols L k (Nat.le_refl _)] at hx3;have ht3:=(bL HP3.out.2.2.2.1);have hne:=z0t W3;have m0:=zi (a:=⟨w.heap.size,0,none⟩) ht3 (zf (p:=0) HP3.out.2.2.2.1);have m1:=zi (a:=⟨w.heap.size,1,none⟩) ht3 (zf (p:=1) HP3.out.2.2.2.1);have m2:=zi (a:=⟨w.heap.size,2,none⟩) ht3 (zf (p:=2) HP3.out.2.2.2.1);have m3:=zi (a:=⟨w.heap.size,3,none⟩) ht3 (zf (p:=3) HP3.out.2.2.2.1);have m4:=zi (a:=⟨w.heap.size,4,none⟩) ht3 (zf (p:=4) HP3.out.2.2.2.1);have m5:=zi (a:=⟨g,k,none⟩) hgw3 hx3;have HN:=Hd (fun W (h:Below W3.heap.size W3 W)=>(HR3.out.kept (fun j h0 _ _=>h.block j h0)).set (i:=k) (by rw [z1k];omega) (max (L.getD k 0) p2));rw [← HF.out] at HN;have HLk:Hid (k < (z1u t.cols L k).length):=(by rw [Hid,z1k];omega);generalize L.getD k 0=y at hxb hx3 m5 HN;have KSq:=Hd (fun (p:BW W3)=>z33 (KS3.out p.u (HP3.out.kept p.h).2.1.1));have KM:=Hd (fun (p:BW W3)=>z1s (z2X y p2 p.u));clear hx3 hf3 HF KS3;refine z17 12 hmx (by rfl) (by rfl) (by kernel_rfl) (by kernel_rfl) ?_;simp only [List.take_succ_cons,List.take_zero];repeat (go_big_quiet_step (first | (go_at_call 110;refine KSq.out _) | (go_at_call 69;refine KM.out _)))
   refine wpQuiet_nil ?_;intro W5 hw';obtain ⟨⟨Wx,hW5⟩,hw''⟩:=hw';subst hw'';have HN5:=Hd (HN.out _ hW5);have HB5:=Hd (z2j (zh HB3.out hW5) (p:=⟨g,k,none⟩) hBg (.int .i64 (max y p2)));have hf5:=(HR3.out.kept (fun j h0 _ _=>hW5.block j h0)).get (i:=k) HLk.out;obtain ⟨g5,cap5,e5,_,_,hgw5,_,_,hx5,hf5⟩:=hf5;simp only [Value.slice.injEq,Option.some.injEq,Addr.mk.injEq,and_true] at e5;have eg:=e5.1;clear e5;subst eg;have hsz5:D≤(W5.setCell ⟨g,k,none⟩ (.int .i64 (max y p2))).heap.size:=(by rw [z2U];have:=hW5.size;omega);clear m0 m1 m2 m3 m4 m5 HN HB3 HR3 hW5 hne KSq KM;rw [if_pos (by rfl)];go_simp;go_wp2;go_roundw
   case rel=>exact ⟨k+1,by go_num,by omega,HN5,HB5,hsz5⟩
   case measure=>simp [intOf];omega
end
section
open Go.RowKit
theorem zjI (ac ar:Option Addr) (cc cr:Nat) (t:T) (hD:z0g t) (hok:zC t=true) (w:World) {z:Nat} (hr:z01 w z (.slice ar t.rows.length cr) t.rows) :
  Calls Tryz.prog 28 #[.agg #[.slice ac t.cols.length cc,.int .i64 t.head,.int .i64 t.foot,.slice ar t.rows.length cr,.int .i64 t.gap]] w fun e w'=>∃ ag cg,e=.returned (.agg #[.int .i64 (gOf t).rows,.int .i64 (gOf t).cols,.slice ag (gOf t).cells.length cg])∧z1I w' w.heap.size (.slice ag (gOf t).cells.length cg) (gOf t).cells∧Below w.heap.size w w':=by
 refine (zhu ac ar cc cr t (z3E hok hD) w hr).mono ?_;rintro e w' ⟨vg,rfl,hO,hb⟩;have hgk:=z6N hD;rw [z2q hok] at hgk ⊢;obtain ⟨ag,cg,rfl⟩:=z5w hO;exact ⟨ag,cg,rfl,hO.at hgk,hb⟩
theorem zjJ {t:T} (hD:z0g t) (hok:zC t=true) {width:Int} (hw:0≤width∧width≤300):UpB (z0d t width) 5000:=by
 obtain ⟨h1,h2,h3⟩:=zbw hD hok hw;have hup:=z3Q hD;have hll:=z1e t;obtain ⟨hC1,hC88,_,_,_,_⟩:=z4K hD hok
 have hg:0≤t.gap∧t.gap≤3:=by
  simp only [zC,inB,Bool.and_eq_true,decide_eq_true_eq] at hok;exact hok.2.2.1
 have hgg:0≤t.gap * ((zA t:Int) - 1):=Int.mul_nonneg hg.1 (by omega)
 have hpos:∀ i,i < (z0d t width).length→0≤(z0d t width).getD i 0:=fun i hi=>by
  have a:=h3 i (by omega);have b:=hup i (by omega);omega
 intro i hi;refine ⟨hpos i hi,?_⟩
 split at h2
 ·have hs:(z0d t width).sum=(zv t).sum:=(by omega);by_cases hlt:(zv t).getD i 0 < (z0d t width).getD i 0
  ·have:=zcV (a:=zv t) (b:=z0d t width) (by omega) (fun j hj=>(h3 j (by omega)).1) i (by omega) hlt;omega
  ·have:=hup i (by omega);omega
 ·have:=za6 hpos hi;omega
def zf6 (t:T) (width:Int):Int:=z1H (z5E t width) t.gap
theorem zeo {t:T} (hD:z0g t) (hok:zC t=true) {width:Int} (hw:0≤width∧width≤300) :
  z5E t width=z0d t width∧(z0d t width).length=zA t∧zf6 t width=(z0d t width).sum+t.gap * ((zA t:Int) - 1)∧(z0d t width).all wtB=true∧0≤(z0d t width).sum∧(z0d t width).sum≤1000000∧0≤t.gap * ((zA t:Int) - 1)∧t.gap * ((zA t:Int) - 1)≤1000 ∧
  zf6 t width=(if width < z1H (zv t) t.gap∨z8e t=true then z1H (zv t) t.gap else width):=by
 obtain ⟨hC1,hC2,ea,_,_,_⟩:=z4K hD hok;obtain ⟨f1,f2,_⟩:=zbw hD hok hw;have hup:=zjJ hD hok hw;have hall:(z0d t width).all wtB=true:=z6g (fun i hi=>by have:=hup i hi;omega);have hs:=z2z hall;have hsb:=z5e (l:=z0d t width) (B:=5000) (fun x hx=>hup.mem hx)
 have hg:0≤t.gap∧t.gap≤3:=by
  simp only [zC,inB,Bool.and_eq_true,decide_eq_true_eq] at hok;exact hok.2.2.1
 have hg1:0≤t.gap * ((zA t:Int) - 1):=Int.mul_nonneg hg.1 (by omega);have hg2:t.gap * ((zA t:Int) - 1)≤3 * 87:=Int.mul_le_mul hg.2 (by omega) (by omega) (by omega);have e0:z5E t width=z0d t width:=(by unfold z5E;rw [if_pos (by rw [hok,z4n hw.1 hw.2];rfl)])
 have e1:zf6 t width=(z0d t width).sum+t.gap * ((zA t:Int) - 1):=by
  unfold zf6;rw [e0,z3f (by omega),f1,z35 (by omega)]
 refine ⟨e0,f1,e1,hall,hs.1,by omega,hg1,by omega,?_⟩;rw [e1,f2,ea]
end
end Go.Proofs.YtggmjiddadjilamGreat
