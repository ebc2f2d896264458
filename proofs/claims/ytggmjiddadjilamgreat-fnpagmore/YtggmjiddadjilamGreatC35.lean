/-
  PROVED HERE: the program's PagBody at a drawn table, any width and heights: the pages of its body, in memory of their own; nothing that was in memory is turned. Also: 6 more texts of the same proof.
-/
import Derived.Test.YtggmjiddadjilamGreatC20
import Derived.Test.YtggmjiddadjilamGreatC34
set_option maxRecDepth 1000000
set_option maxHeartbeats 40000000
namespace Go.Proofs.YtggmjiddadjilamGreat
section
open Go.RowKit
def z24 (t:T) (width:Int) (high:List Int):List (List PgS):=if z2S t width high=true then z4x (high.map (· - (hiS (z0Z t (z1j t width))+hiS (z11 t (z1j t width))))) (z0X t (z1j t width)) else []
theorem z7s {t:T} (hok:zC t=true) {hs:List Int} (hb:∀ x ∈ hs,0≤x∧x≤1000):(z0X t hs).length≤9000:=by
 have h1:=z7O (t:=t) hb (z0a (gOf t).cells t.rows.length) (zG (gOf t).cells t.rows.length).length;have h2:=z38 (gOf t).cells t.rows.length;have h3:=(z0Q hok).1.2;unfold z0X;omega
theorem zaM {t:T} {x:Int}:∀ y ∈ z1j t x,0≤y∧y≤1000:=by
 intro y hy;have hne:(z1j t x).length ≠ 0:=fun h=>by rw [List.eq_nil_of_length_eq_zero h] at hy;cases hy
 obtain ⟨hok,_,e,_⟩:=zgQ hne;rw [e] at hy;exact zf7 (zip t (z0d t x) (gOf t).cells) t.rows.length y hy
theorem zi6 {t:T} (hD:z0g t) (hok:zC t=true) {hs:List Int} (hb:∀ x ∈ hs,0≤x∧x≤1000) (j:Nat):(∀ k,k≤((z0X t hs).drop j).length→z3o ((((z0X t hs).drop j).take k).foldl zT [])∧((((z0X t hs).drop j).take k).foldl zT []).length≤50000)∧∀ p ∈ (z0X t hs).drop j,z3o p∧p.length≤50000:=by
 refine ⟨fun k _=>?_,fun p hp=>zg3 hD hok hb (List.mem_of_mem_drop hp)⟩;have e:z0X t hs=(z0X t hs).take j ++ ((z0X t hs).drop j).take k ++ ((z0X t hs).drop j).drop k:=(by rw [List.append_assoc,List.take_append_drop,List.take_append_drop]);have h:=z5I hD hok hb e;exact ⟨h.1,h.2.1⟩
def zjK:Value→Nat
 | .slice _ n _=>n
 | _=>0
def PJ9 (bb B z:Nat) (w0:World) (vh:Value) (bes:Int) (rm:List Int) (pcs:List (List PgS)) (vl:Value) (W:World):Prop :=
 ∃ (j:Nat) (pgs:List (List PgS)) (us:List Value) (a:Option Addr) (c:Nat),(∀ W',BF bb B W W'→z1T W' z vl (pcs.drop j))∧W.heap[bb]?=some (.cells #[.slice a pgs.length c,vh,.int .i64 bes] 76)∧W.ownsRow B 73 1 (.slice a pgs.length c) pgs.length us∧zZ W B us pgs∧BF bb B w0 W ∧
  z4x rm pcs=z5K rm pgs (pcs.drop j)∧pgs.length≤j+1∧j≤pcs.length
structure PI9 (w:World) (z:Nat) (ac ar:Option Addr) (cc cr:Nat) (t:T) (hs:List Int) (vr:Value) (W:World):Prop where
 below:Below w.heap.size w W
 box:W.heap[w.heap.size]?=some (.cells #[.slice ac t.cols.length cc,.int .i64 t.head,.int .i64 t.foot,.slice ar t.rows.length cr,.int .i64 t.gap] 26)
 ta:TA W z ac ar cc cr t
 hts:zu W vr hs
theorem PI9.kept {w:World} {z:Nat} {ac ar:Option Addr} {cc cr:Nat} {t:T} {hs:List Int} {vr:Value} {W W':World} (h:PI9 w z ac ar cc cr t hs vr W) (k:Below W.heap.size W W'):PI9 w z ac ar cc cr t hs vr W' :=
 ⟨zh h.below k,(k.block _ (bL h.box)).trans h.box,h.ta.kept k,h.hts.kept k⟩
structure PiJ (w:World) (z:Nat) (ac ar:Option Addr) (cc cr:Nat) (t:T) (hs high:List Int) (vr:Value) (ah:Option Addr) (ch:Nat) (W3:World) (L:Nat→Bool) (W:World) (v8 v18 v19 v20 v21 v22 v23 v24 v25 v26 v27 v28 v29:Value):Prop where
 f0:L 0=true→v18=.slice ah high.length ch
 f1:L 1=true→v19=.agg #[.slice ac t.cols.length cc,.int .i64 t.head,.int .i64 t.foot,.slice ar t.rows.length cr,.int .i64 t.gap]
 f2:L 2=true→v20=vr
 f3:L 3=true→zJ W W3.heap.size v21 (z0Z t hs)
 f4:L 4=true→v22=.int .i64 (hiS (z0Z t hs))
 f5:L 5=true→v23=.agg #[.slice ac t.cols.length cc,.int .i64 t.head,.int .i64 t.foot,.slice ar t.rows.length cr,.int .i64 t.gap]
 f6:L 6=true→v24=vr
 f7:L 7=true→zJ W W3.heap.size v25 (z11 t hs)
 f8:L 8=true→v26=.int .i64 (hiS (z11 t hs))
 f9:L 9=true→v27=.int .i64 (hiS (z0Z t hs)+hiS (z11 t hs))
 f10:L 10=true→v28=.agg #[.slice none 0 0,.slice ah high.length ch,.int .i64 (hiS (z0Z t hs)+hiS (z11 t hs))]
 f11:L 11=true→∃ g,v29=.pointer (some ⟨g,0,none⟩)∧W3.heap.size≤g∧W.heap[g]?=some (.cells #[.slice none 0 0,.slice ah high.length ch,.int .i64 (hiS (z0Z t hs)+hiS (z11 t hs))] 76)
 f12:L 12=true→∃ g,v8=.pointer (some ⟨g,0,none⟩)∧W3.heap.size≤g∧W.heap[g]?=some (.cells #[.slice none 0 0,.slice ah high.length ch,.int .i64 (hiS (z0Z t hs)+hiS (z11 t hs))] 76)∧Below W3.heap.size W3 W
 b:L 12=false→Below W3.heap.size W3 W
theorem zdO (ac ar:Option Addr) (cc cr:Nat) (t:T) (hD:z0g t) (width:Int) (vh:Value) (high:List Int) (w:World) {z:Nat} (hc:z07 w z (.slice ac t.cols.length cc) t.cols) (hr:z01 w z (.slice ar t.rows.length cr) t.rows) (hh:zu w vh high) :
  Calls Tryz.prog 13 #[.agg #[.slice ac t.cols.length cc,.int .i64 t.head,.int .i64 t.foot,.slice ar t.rows.length cr,.int .i64 t.gap],.int .i64 width,vh] w fun e w'=>∃ v us,e=.returned v∧w'.ownsRow w.heap.size 73 1 v us.length us∧zZ w' w.heap.size us (z24 t width high)∧Below w.heap.size w w':=by
 have hmx:Tryz.prog.follows .mixedOrders=true:=(by kernel_rfl);obtain ⟨ah,ch,rfl,_⟩:=hh.form;have HK0:=Hd (ze (Below.refl w.heap.size w) (.cells #[.slice ac t.cols.length cc,.int .i64 t.head,.int .i64 t.foot,.slice ar t.rows.length cr,.int .i64 t.gap] 26));have HX0:=Hd (zj w (.cells #[.slice ac t.cols.length cc,.int .i64 t.head,.int .i64 t.foot,.slice ar t.rows.length cr,.int .i64 t.gap] 26));have HT0:Hid (TA w z ac ar cc cr t):=⟨hc,hr⟩;have HVH:=Hd (fun W (k:Below w.heap.size w W)=>hh.kept k);have hs0:(w.alloc (.cells #[.slice ac t.cols.length cc,.int .i64 t.head,.int .i64 t.foot,.slice ar t.rows.length cr,.int .i64 t.gap] 26)).heap.size=w.heap.size+1:=(by simp);have KO:=Hd (fun W (k:Below w.heap.size w W)=>zbC ac ar cc cr t width _ high W (HT0.out.kept k).1 (HT0.out.kept k).2 (HVH.out W k));clear hc hr hh;go_enter Tryz.func13,Tryz.ntmps13;go_upto_region 1 with fail
 generalize w.alloc (.cells #[.slice ac t.cols.length cc,.int .i64 t.head,.int .i64 t.foot,.slice ar t.rows.length cr,.int .i64 t.gap] 26)=W0 at HK0 HX0 hs0 ⊢;obtain ⟨b0,b1,b2,b3,b4⟩:=zU HX0.out
 cases hok:z2S t width high with
 | false =>
  rw [hok] at KO;have HF:Hid (z24 t width high=[]):=Hd (by unfold z24;rw [if_neg (by rw [hok];simp)]);clear hok;go_wp2_with fail
  refine (KO.out _ HK0.out).mono ?_;rintro e w1 ⟨rfl,hb1⟩;have HK1:=Hd (zh HK0.out hb1);clear hb1 b0 b1 b2 b3 b4;go_wp2;go_ret;exact ⟨_,[],rfl,⟨rfl,.inl ⟨rfl,rfl⟩⟩,by rw [HF.out];exact zZ.nil _ _,HK1.out⟩
 | true =>
  rw [hok] at KO;have HF:Hid (z24 t width high=z4x (high.map (· - (hiS (z0Z t (z1j t width))+hiS (z11 t (z1j t width))))) (z0X t (z1j t width))):=Hd (by unfold z24;rw [if_pos hok]);have hok2:=hok;unfold z2S at hok2;rw [Bool.and_eq_true,Bool.and_eq_true,Bool.and_eq_true] at hok2;obtain ⟨⟨htk,hwd⟩,hln,hhs⟩:=hok2;have hi1:0 < high.length:=(by have h:=of_decide_eq_true hln;omega);have hi2:high.length≤60:=(by have h:=of_decide_eq_true hln;omega);have HHB:Hid (∀ x ∈ high,0≤x∧x≤100):=Hd (fun x hx=>of_decide_eq_true (List.all_eq_true.1 hhs x hx))
  have hRl:(z1j t width).length=t.rows.length:=by
   unfold z1j z6V;rw [if_pos (by rw [htk,hwd];rfl),z0Y]
  have HRb:=Hd (zaM (t:=t) (x:=width));have hR8:=z0Q htk;have KR:=Hd (fun W (h:TA W z ac ar cc cr t)=>zdN ac ar cc cr t hD width W h.1 h.2);generalize z1j t width=hs at HF hRl HRb KR;have KH:=Hd (fun (v:Value) W (h:zu W v hs)=>zeM (.slice ac t.cols.length cc) (.slice ar t.rows.length cr) t htk hs hRl v W h);have KF:=Hd (fun (v:Value) W (h:zu W v hs)=>zeN (.slice ac t.cols.length cc) (.slice ar t.rows.length cr) t htk hs hRl v W h);have hlh:z3o (z0Z t hs):=z79 HRb.out (by omega);have hlf:z3o (z11 t hs):=z79 HRb.out (by omega);have KA:=Hd (fun (v:Value) W z (h:z2I W z v (z0Z t hs))=>(z4r hlh ▸ z5q v (z0Z t hs) W h:Calls Tryz.prog 34 #[v] W fun e w'=>e=.returned (.int .i64 (hiS (z0Z t hs)))∧Below W.heap.size W w'));have KB:=Hd (fun (v:Value) W z (h:z2I W z v (z11 t hs))=>(z4r hlf ▸ z5q v (z11 t hs) W h:Calls Tryz.prog 34 #[v] W fun e w'=>e=.returned (.int .i64 (hiS (z11 t hs)))∧Below W.heap.size W w'));have KC:=Hd (fun (v:Value) W (h:TA W z ac ar cc cr t) (hv:zu W v hs)=>zcr ac ar cc cr t hD htk hs hRl HRb.out v W h.1 h.2 hv);unfold z3o at hlh hlf;have hwr:IntKind.i64.wrap (hiS (z0Z t hs)+hiS (z11 t hs))=hiS (z0Z t hs)+hiS (z11 t hs):=(by rw [IntKind.wrap_i64];omega)
  have hbs:0≤hiS (z0Z t hs)+hiS (z11 t hs)∧hiS (z0Z t hs)+hiS (z11 t hs)≤1000000:=by
   have a1:=z4C HRb.out t.head.toNat 0 (by omega);have a2:=z4C HRb.out t.foot.toNat (t.rows.length - t.foot.toNat) (by omega);unfold z0Z z11;omega
  have HPL:Hid ((z0X t hs).length≤9000):=Hd (z7s htk HRb.out);clear hok hln hhs hwd hRl;go_wp2_with fail
  refine (KO.out _ HK0.out).mono ?_;rintro e w1 ⟨rfl,hb1⟩;have HX1:=Hd ((hb1.block w.heap.size (by omega)).trans HX0.out);have HK1:=Hd (zh HK0.out hb1);have hs1:w.heap.size < w1.heap.size:=(by have:=hb1.size;omega);clear hb1 b0 b1 b2 b3 b4 HX0 HK0 hs0 KO;obtain ⟨b0,b1,b2,b3,b4⟩:=zU HX1.out;go_wp2_with fail
  refine (KR.out _ (HT0.out.kept HK1.out)).mono ?_;rintro e W3 ⟨vr,rfl,hI3,hb3⟩;have HP3:Hid (PI9 w z ac ar cc cr t hs vr W3):=Hd ⟨zh HK1.out hb3,(hb3.block w.heap.size hs1).trans HX1.out,HT0.out.kept (zh HK1.out hb3),hI3.at⟩;have HWz:Hid (w.heap.size≤W3.heap.size):=Hd (by have:=hb3.size;omega);clear hI3 hb3 b0 b1 b2 b3 b4 HX1 HK1 KR hs1;go_upto_region 4 with fail
  refine z0p (fun L act W=>∃ v8 v18 v19 v20 v21 v22 v23 v24 v25 v26 v27 v28 v29:Value,act=⟨#[.agg #[.slice ac t.cols.length cc,.int .i64 t.head,.int .i64 t.foot,.slice ar t.rows.length cr,.int .i64 t.gap],.int .i64 width,.slice ah high.length ch,.pointer (some ⟨w.heap.size,0,none⟩),undef,undef,.slice none 0 0,vr,v8,undef,.agg #[.slice ac t.cols.length cc,.int .i64 t.head,.int .i64 t.foot,.slice ar t.rows.length cr,.int .i64 t.gap],.int .i64 width,.slice ah high.length ch,.bool true,.bool false,.agg #[.slice ac t.cols.length cc,.int .i64 t.head,.int .i64 t.foot,.slice ar t.rows.length cr,.int .i64 t.gap],.int .i64 width,vr,v18,v19,v20,v21,v22,v23,v24,v25,v26,v27,v28,v29,undef,undef,undef,undef,undef,undef,undef,undef,undef,undef,undef,undef,undef,undef,undef],[]⟩∧PiJ w z ac ar cc cr t hs high vr ah ch W3 L W v8 v18 v19 v20 v21 v22 v23 v24 v25 v26 v27 v28 v29) hmx (by kernel_rfl) ?hs ?hd ?h0
  case h0=>exact ⟨_,_,_,_,_,_,_,_,_,_,_,_,_,rfl,⟨(fun h=>by cases h),(fun h=>by cases h),(fun h=>by cases h),(fun h=>by cases h),(fun h=>by cases h),(fun h=>by cases h),(fun h=>by cases h),(fun h=>by cases h),(fun h=>by cases h),(fun h=>by cases h),(fun h=>by cases h),(fun h=>by cases h),(fun h=>by cases h),(fun _=>z1a (Below.refl _ _))⟩⟩
  case hd =>
   intro L act W hJ hall;obtain ⟨v8,v18,v19,v20,v21,v22,v23,v24,v25,v26,v27,v28,v29,ha,J⟩:=hJ;subst ha;obtain ⟨bb,rfl,hbb,hbx,hKB⟩:=J.f12 (hall 12 (by decide));clear J hall;have HP4:=Hd (HP3.out.kept hKB);have HBX:=Hd hbx;have hlb:=(bL hbx);have hsz4:=hKB.size;clear hKB hbx KH KF KA KB HP3 hwr;obtain ⟨b0,b1,b2,b3,b4⟩:=zU HP4.out.box;go_wp2_with fail
   refine (KC.out _ _ HP4.out.ta HP4.out.hts).mono ?_;rintro e w5 ⟨vp,up,rfl,hOp,hRp,hb5⟩;have hPp:z1T w5 W.heap.size vp (z0X t hs):=hRp.pss hOp (Nat.le_refl _) (Nat.le_refl _);have hP5:=HP4.out.kept hb5;have HBX5:=Hd ((hb5.block bb hlb).trans HBX.out);have hlb5:bb < w5.heap.size:=Nat.lt_of_lt_of_le hlb hb5.size;have hw5:w.heap.size≤bb:=Nat.le_trans (HWz.out) hbb;have HB5:=Hd hP5.below;have HCV:Hid (∀ W',BF bb w5.heap.size w5 W'→Below w.heap.size w5 W'):=Hd (fun W' k=>⟨k.os,k.tape,k.output,k.size,fun q hq=>k.block q (by omega) (by omega)⟩);have HV:=Hd (fun W' (k:BF bb w5.heap.size w5 W')=>HVH.out W' (HB5.out.trans (HCV.out W' k)));have HPC:Hid (∀ W',BF bb w5.heap.size w5 W'→z1T W' W.heap.size vp (z0X t hs)):=Hd (fun W' k=>hPp.since ⟨k.size,fun q h1 h2=>k.block q h2 (by omega)⟩);obtain ⟨ap,cp,rfl,_⟩:=At.form hPp;clear hOp hRp hb5 hPp hP5 HP4 HBX KC b0 b1 b2 b3 b4 hbb hlb HWz;have HLL:=Hd (fun (j:Nat)=>zi6 hD htk HRb.out j);have HRS:=Hd (zhF (high.map (· - (hiS (z0Z t hs)+hiS (z11 t hs)))) (z0X t hs));have HRM:=Hd (fun (pgs left:List (List PgS))=>zgc (rm:=high.map (· - (hiS (z0Z t hs)+hiS (z11 t hs)))) (pgs:=pgs) (left:=left));have hKF1:=zcv bb w5.heap.size W.heap.size none 0 0 (.slice ah high.length ch) (.slice ap (z0X t hs).length cp) high (hiS (z0Z t hs)+hiS (z11 t hs)) [] [] (z0X t hs) rfl (by omega) (by have:=HPL.out;omega) hi1 hi2 HHB.out hbs (by have:=(HLL.out 0).1;simpa using this) (by have:=(HLL.out 0).2;simpa using this) w5 (Nat.le_refl _) HBX5.out HV.out ⟨rfl,.inl ⟨rfl,rfl⟩⟩ (zZ.nil _ _) HPC.out;obtain ⟨j0,hj0,e0,_⟩:=z7Z (zD (high.map (· - (hiS (z0Z t hs)+hiS (z11 t hs)))) 0) (z0X t hs) [];rw [e0] at hKF1 HRS;generalize (z1C (zD (high.map (· - (hiS (z0Z t hs)+hiS (z11 t hs)))) 0) [] (z0X t hs)).1=pg0 at hKF1 HRS;have KF1:=Hd hKF1;have HHI:Hid (0 < high.length∧high.length≤60):=Hd ⟨hi1,hi2⟩;clear hKF1 e0;go_wp2_with fail
   refine KF1.out.mono ?_;rintro e w6 ⟨vl,us,a,c,rfl,hL,hB6,hO6,hR6,hK6⟩;have H6:Hid (PJ9 bb w5.heap.size W.heap.size w5 (.slice ah high.length ch) (hiS (z0Z t hs)+hiS (z11 t hs)) (high.map (· - (hiS (z0Z t hs)+hiS (z11 t hs)))) (z0X t hs) vl w6):=Hd ⟨j0,[pg0],us,a,c,hL,hB6,hO6,hR6,hK6,HRS.out,by simp,hj0⟩;clear hL hB6 hO6 hR6 hK6 KF1 HRS HBX5;obtain ⟨pcs,hpcs⟩:∃ pcs,z0X t hs=pcs:=⟨_,rfl⟩;rw [hpcs] at H6 HPL HPC HLL HF;clear hpcs;generalize hiS (z0Z t hs)+hiS (z11 t hs)=bes at H6 HRM HF hbs HLL ⊢;go_wp2_with fail
   go_loopw [9] (fun v W'=>Hid (PJ9 bb w5.heap.size W.heap.size w5 (.slice ah high.length ch) bes (high.map (· - bes)) pcs v W')) (fun v _=>zjK v)
   case atStart=>exact H6
   case round =>
    clear H6;obtain ⟨j,pgs,us2,a2,c2,hL,hB,hO,hR,hK,hE,hn,hj⟩:=Hid.out hrel;obtain ⟨al,cl,rfl,hll⟩:=At.form (hL wr (BF.of_below (Below.refl _ _) hK.size));have hld:(pcs.drop j).length=pcs.length - j:=List.length_drop;rw [hld] at hL ⊢;by_cases hz:j=pcs.length
    case pos =>
     have hz2:pcs.length - j=0:=(by omega);rw [hz2] at hL ⊢;have hd:pcs.drop j=[]:=(by rw [hz,List.drop_length]);rw [hd,zhG] at hE;have HE:=Hd (HF.out.trans hE);have HO:=Hd (z97 hO (by omega:w.heap.size≤w5.heap.size));have HR:=Hd (hR.base (by omega:w.heap.size≤w5.heap.size));have HK:=Hd (HB5.out.trans (HCV.out _ hK));have HUl:=Hd (hR.1);have g0:wr.cell? ⟨bb,0,none⟩=some (.slice a2 pgs.length c2):=zf hB;clear hL hB hO hR hK hE hn hj hll hld hrel hz hz2 hd;go_wp2;go_ret;exact ⟨_,us2,rfl,by rw [HUl.out];exact HO.out,by rw [HE.out];exact HR.out,HK.out⟩
    have hne:pcs.drop j ≠ []:=fun e=>by rw [e,List.length_nil] at hld;omega
    have hpos:(0:Int) < ((pcs.length - j:Nat):Int):=(by omega);have hE2:=hE.trans (HRM.out pgs (pcs.drop j) hne);have hpl:=HPL.out;have hKF:=zcv bb w5.heap.size W.heap.size a2 pgs.length c2 (.slice ah high.length ch) (.slice al (pcs.length - j) cl) high bes us2 pgs (pcs.drop j) rfl (by omega) (by omega) HHI.out.1 HHI.out.2 HHB.out hbs (HLL.out j).1 (HLL.out j).2 wr hK.size hB (fun W' k=>HV.out W' (hK.trans k)) hO hR hL
    obtain ⟨q,ql,eq⟩:∃ q ql,pcs.drop j=q :: ql:=by
     cases hx:pcs.drop j with
     | nil=>exact absurd hx hne
     | cons q ql=>exact ⟨q,ql,rfl⟩
    obtain ⟨j2,hj2,hj3,e2⟩:=zgd (room:=zD (high.map (· - bes)) pgs.length) (p:=q) (ps:=ql);rw [← eq] at e2 hj3;rw [hld] at hj3;rw [List.drop_drop] at e2;rw [e2] at hKF hE2;generalize (z1C (zD (high.map (· - bes)) pgs.length) [] (pcs.drop j)).1=pg1 at hKF hE2;have KF:=Hd hKF;have HE:=Hd hE2;have HKr:=Hd hK;have hn2:pgs.length≤10000:=(by omega);clear hL hB hO hR hK hE hE2 hKF e2 eq hll hld hrel hne;go_wp2_with fail
    refine KF.out.mono ?_;rintro e w7 ⟨vl2,us3,a3,c3,rfl,hL3,hB3,hO3,hR3,hK3⟩;have H7:Hid (PJ9 bb w5.heap.size W.heap.size w5 (.slice ah high.length ch) bes (high.map (· - bes)) pcs vl2 w7):=Hd ⟨j+j2,pgs ++ [pg1],us3,a3,c3,hL3,by rw [List.length_append];exact hB3,by rw [List.length_append];exact hO3,hR3,HKr.out.trans hK3,HE.out,by rw [List.length_append];simp;omega,by omega⟩;obtain ⟨al3,cl3,e3,_⟩:=At.form (hL3 w7 (BF.of_below (Below.refl _ _) (Nat.le_trans HKr.out.size hK3.size)));rw [List.length_drop] at e3;subst e3;clear hL3 hB3 hO3 hR3 hK3 KF;go_wp2;go_roundw
    case rel=>exact H7
    case measure=>simp [zjK];omega
  case hs =>
   intro L act W i o hJ hcl ho hLi haft K hK;obtain ⟨v8,v18,v19,v20,v21,v22,v23,v24,v25,v26,v27,v28,v29,ha,J⟩:=hJ;subst ha
   have hi':i < 13:=by
    have:=(bL ho)
    simpa using this
   rcases (by omega:i=0∨i=1∨i=2∨i=3∨i=4∨i=5∨i=6∨i=7∨i=8∨i=9∨i=10∨i=11∨i=12) with rfl | rfl | rfl | rfl | rfl | rfl | rfl | rfl | rfl | rfl | rfl | rfl | rfl
   all_goals
    simp only [List.getElem?_toArray,List.getElem?_cons_zero,List.getElem?_cons_succ,Option.some.injEq] at ho;subst ho;clear hi'
   ·have hN:=(Qh hcl 12 11 (Qh hcl 11 10 (Qh hcl 10 0 hLi)));have hB:=J.b hN;go_simp;exact hK _ _ ⟨_,_,_,_,_,_,_,_,_,_,_,_,_,rfl,⟨(fun _=>rfl),uq J.f1,uq J.f2,(fun h=>(J.f3 (un h))),uq J.f4,uq J.f5,uq J.f6,(fun h=>(J.f7 (un h))),uq J.f8,uq J.f9,(fun h=>absurd (((Qh hcl 10 0 hLi)).symm.trans (un h)) (by simp)),(fun h=>absurd (((Qh hcl 11 10 (Qh hcl 10 0 hLi))).symm.trans (un h)) (by simp)),(fun h=>absurd (((Qh hcl 12 11 (Qh hcl 11 10 (Qh hcl 10 0 hLi)))).symm.trans (un h)) (by simp)),(fun _=>hB)⟩⟩
   ·have hN:=(Qh hcl 12 11 (Qh hcl 11 10 (Qh hcl 10 9 (Qh hcl 9 4 (Qh hcl 4 3 (Qh hcl 3 1 hLi))))));have hB:=J.b hN;obtain ⟨b0,b1,b2,b3,b4⟩:=zU (HP3.out.kept hB).box;go_simp;exact hK _ _ ⟨_,_,_,_,_,_,_,_,_,_,_,_,_,rfl,⟨uq J.f0,(fun _=>rfl),uq J.f2,(fun h=>absurd (((Qh hcl 3 1 hLi)).symm.trans (un h)) (by simp)),(fun h=>absurd (((Qh hcl 4 3 (Qh hcl 3 1 hLi))).symm.trans (un h)) (by simp)),uq J.f5,uq J.f6,(fun h=>(J.f7 (un h))),uq J.f8,(fun h=>absurd (((Qh hcl 9 4 (Qh hcl 4 3 (Qh hcl 3 1 hLi)))).symm.trans (un h)) (by simp)),(fun h=>absurd (((Qh hcl 10 9 (Qh hcl 9 4 (Qh hcl 4 3 (Qh hcl 3 1 hLi))))).symm.trans (un h)) (by simp)),(fun h=>absurd (((Qh hcl 11 10 (Qh hcl 10 9 (Qh hcl 9 4 (Qh hcl 4 3 (Qh hcl 3 1 hLi)))))).symm.trans (un h)) (by simp)),(fun h=>absurd (((Qh hcl 12 11 (Qh hcl 11 10 (Qh hcl 10 9 (Qh hcl 9 4 (Qh hcl 4 3 (Qh hcl 3 1 hLi))))))).symm.trans (un h)) (by simp)),(fun _=>hB)⟩⟩
   ·have hN:=(Qh hcl 12 11 (Qh hcl 11 10 (Qh hcl 10 9 (Qh hcl 9 4 (Qh hcl 4 3 (Qh hcl 3 2 hLi))))));have hB:=J.b hN;go_simp;exact hK _ _ ⟨_,_,_,_,_,_,_,_,_,_,_,_,_,rfl,⟨uq J.f0,uq J.f1,(fun _=>rfl),(fun h=>absurd (((Qh hcl 3 2 hLi)).symm.trans (un h)) (by simp)),(fun h=>absurd (((Qh hcl 4 3 (Qh hcl 3 2 hLi))).symm.trans (un h)) (by simp)),uq J.f5,uq J.f6,(fun h=>(J.f7 (un h))),uq J.f8,(fun h=>absurd (((Qh hcl 9 4 (Qh hcl 4 3 (Qh hcl 3 2 hLi)))).symm.trans (un h)) (by simp)),(fun h=>absurd (((Qh hcl 10 9 (Qh hcl 9 4 (Qh hcl 4 3 (Qh hcl 3 2 hLi))))).symm.trans (un h)) (by simp)),(fun h=>absurd (((Qh hcl 11 10 (Qh hcl 10 9 (Qh hcl 9 4 (Qh hcl 4 3 (Qh hcl 3 2 hLi)))))).symm.trans (un h)) (by simp)),(fun h=>absurd (((Qh hcl 12 11 (Qh hcl 11 10 (Qh hcl 10 9 (Qh hcl 9 4 (Qh hcl 4 3 (Qh hcl 3 2 hLi))))))).symm.trans (un h)) (by simp)),(fun _=>hB)⟩⟩
   ·have hN:=(Qh hcl 12 11 (Qh hcl 11 10 (Qh hcl 10 9 (Qh hcl 9 4 (Qh hcl 4 3 hLi)))));have hB:=J.b hN;obtain rfl:=J.f1 (Fa haft 1);obtain rfl:=J.f2 (Fa haft 2);have hw:=(HP3.out.kept hB).hts;have hsz:=hB.size;go_simp;go_wp2_with (go_at_call 35;refine (KH.out _ _ hw).mono ?_;rintro e W2 ⟨u,rfl,hU,hb⟩)
    exact ⟨_,_,_,_,_,_,_,_,_,_,_,_,_,rfl,⟨uq J.f0,uq J.f1,uq J.f2,(fun _=>hU.base hsz),(fun h=>absurd (((Qh hcl 4 3 hLi)).symm.trans (un h)) (by simp)),uq J.f5,uq J.f6,(fun h=>((J.f7 (un h))).kept hb),uq J.f8,(fun h=>absurd (((Qh hcl 9 4 (Qh hcl 4 3 hLi))).symm.trans (un h)) (by simp)),(fun h=>absurd (((Qh hcl 10 9 (Qh hcl 9 4 (Qh hcl 4 3 hLi)))).symm.trans (un h)) (by simp)),(fun h=>absurd (((Qh hcl 11 10 (Qh hcl 10 9 (Qh hcl 9 4 (Qh hcl 4 3 hLi))))).symm.trans (un h)) (by simp)),(fun h=>absurd (((Qh hcl 12 11 (Qh hcl 11 10 (Qh hcl 10 9 (Qh hcl 9 4 (Qh hcl 4 3 hLi)))))).symm.trans (un h)) (by simp)),(fun _=>zh hB hb)⟩⟩
   ·have hN:=(Qh hcl 12 11 (Qh hcl 11 10 (Qh hcl 10 9 (Qh hcl 9 4 hLi))));have hB:=J.b hN;have hU:=J.f3 (Fa haft 3);go_simp;go_wp2_with (go_at_call 34;refine (KA.out _ _ _ hU.at).mono ?_;rintro e W2 ⟨rfl,hb⟩)
    exact ⟨_,_,_,_,_,_,_,_,_,_,_,_,_,rfl,⟨uq J.f0,uq J.f1,uq J.f2,(fun h=>((J.f3 (un h))).kept hb),(fun _=>rfl),uq J.f5,uq J.f6,(fun h=>((J.f7 (un h))).kept hb),uq J.f8,(fun h=>absurd (((Qh hcl 9 4 hLi)).symm.trans (un h)) (by simp)),(fun h=>absurd (((Qh hcl 10 9 (Qh hcl 9 4 hLi))).symm.trans (un h)) (by simp)),(fun h=>absurd (((Qh hcl 11 10 (Qh hcl 10 9 (Qh hcl 9 4 hLi)))).symm.trans (un h)) (by simp)),(fun h=>absurd (((Qh hcl 12 11 (Qh hcl 11 10 (Qh hcl 10 9 (Qh hcl 9 4 hLi))))).symm.trans (un h)) (by simp)),(fun _=>zh hB hb)⟩⟩
   ·have hN:=(Qh hcl 12 11 (Qh hcl 11 10 (Qh hcl 10 9 (Qh hcl 9 8 (Qh hcl 8 7 (Qh hcl 7 5 hLi))))));have hB:=J.b hN;obtain ⟨b0,b1,b2,b3,b4⟩:=zU (HP3.out.kept hB).box;go_simp;exact hK _ _ ⟨_,_,_,_,_,_,_,_,_,_,_,_,_,rfl,⟨uq J.f0,uq J.f1,uq J.f2,(fun h=>(J.f3 (un h))),uq J.f4,(fun _=>rfl),uq J.f6,(fun h=>absurd (((Qh hcl 7 5 hLi)).symm.trans (un h)) (by simp)),(fun h=>absurd (((Qh hcl 8 7 (Qh hcl 7 5 hLi))).symm.trans (un h)) (by simp)),(fun h=>absurd (((Qh hcl 9 8 (Qh hcl 8 7 (Qh hcl 7 5 hLi)))).symm.trans (un h)) (by simp)),(fun h=>absurd (((Qh hcl 10 9 (Qh hcl 9 8 (Qh hcl 8 7 (Qh hcl 7 5 hLi))))).symm.trans (un h)) (by simp)),(fun h=>absurd (((Qh hcl 11 10 (Qh hcl 10 9 (Qh hcl 9 8 (Qh hcl 8 7 (Qh hcl 7 5 hLi)))))).symm.trans (un h)) (by simp)),(fun h=>absurd (((Qh hcl 12 11 (Qh hcl 11 10 (Qh hcl 10 9 (Qh hcl 9 8 (Qh hcl 8 7 (Qh hcl 7 5 hLi))))))).symm.trans (un h)) (by simp)),(fun _=>hB)⟩⟩
   ·have hN:=(Qh hcl 12 11 (Qh hcl 11 10 (Qh hcl 10 9 (Qh hcl 9 8 (Qh hcl 8 7 (Qh hcl 7 6 hLi))))));have hB:=J.b hN;go_simp;exact hK _ _ ⟨_,_,_,_,_,_,_,_,_,_,_,_,_,rfl,⟨uq J.f0,uq J.f1,uq J.f2,(fun h=>(J.f3 (un h))),uq J.f4,uq J.f5,(fun _=>rfl),(fun h=>absurd (((Qh hcl 7 6 hLi)).symm.trans (un h)) (by simp)),(fun h=>absurd (((Qh hcl 8 7 (Qh hcl 7 6 hLi))).symm.trans (un h)) (by simp)),(fun h=>absurd (((Qh hcl 9 8 (Qh hcl 8 7 (Qh hcl 7 6 hLi)))).symm.trans (un h)) (by simp)),(fun h=>absurd (((Qh hcl 10 9 (Qh hcl 9 8 (Qh hcl 8 7 (Qh hcl 7 6 hLi))))).symm.trans (un h)) (by simp)),(fun h=>absurd (((Qh hcl 11 10 (Qh hcl 10 9 (Qh hcl 9 8 (Qh hcl 8 7 (Qh hcl 7 6 hLi)))))).symm.trans (un h)) (by simp)),(fun h=>absurd (((Qh hcl 12 11 (Qh hcl 11 10 (Qh hcl 10 9 (Qh hcl 9 8 (Qh hcl 8 7 (Qh hcl 7 6 hLi))))))).symm.trans (un h)) (by simp)),(fun _=>hB)⟩⟩
   ·have hN:=(Qh hcl 12 11 (Qh hcl 11 10 (Qh hcl 10 9 (Qh hcl 9 8 (Qh hcl 8 7 hLi)))));have hB:=J.b hN;obtain rfl:=J.f5 (Fa haft 5);obtain rfl:=J.f6 (Fa haft 6);have hw:=(HP3.out.kept hB).hts;have hsz:=hB.size;go_simp;go_wp2_with (go_at_call 36;refine (KF.out _ _ hw).mono ?_;rintro e W2 ⟨u,rfl,hU,hb⟩)
    exact ⟨_,_,_,_,_,_,_,_,_,_,_,_,_,rfl,⟨uq J.f0,uq J.f1,uq J.f2,(fun h=>((J.f3 (un h))).kept hb),uq J.f4,uq J.f5,uq J.f6,(fun _=>hU.base hsz),(fun h=>absurd (((Qh hcl 8 7 hLi)).symm.trans (un h)) (by simp)),(fun h=>absurd (((Qh hcl 9 8 (Qh hcl 8 7 hLi))).symm.trans (un h)) (by simp)),(fun h=>absurd (((Qh hcl 10 9 (Qh hcl 9 8 (Qh hcl 8 7 hLi)))).symm.trans (un h)) (by simp)),(fun h=>absurd (((Qh hcl 11 10 (Qh hcl 10 9 (Qh hcl 9 8 (Qh hcl 8 7 hLi))))).symm.trans (un h)) (by simp)),(fun h=>absurd (((Qh hcl 12 11 (Qh hcl 11 10 (Qh hcl 10 9 (Qh hcl 9 8 (Qh hcl 8 7 hLi)))))).symm.trans (un h)) (by simp)),(fun _=>zh hB hb)⟩⟩
   ·have hN:=(Qh hcl 12 11 (Qh hcl 11 10 (Qh hcl 10 9 (Qh hcl 9 8 hLi))));have hB:=J.b hN;have hU:=J.f7 (Fa haft 7);go_simp;go_wp2_with (go_at_call 34;refine (KB.out _ _ _ hU.at).mono ?_;rintro e W2 ⟨rfl,hb⟩)
    exact ⟨_,_,_,_,_,_,_,_,_,_,_,_,_,rfl,⟨uq J.f0,uq J.f1,uq J.f2,(fun h=>((J.f3 (un h))).kept hb),uq J.f4,uq J.f5,uq J.f6,(fun h=>((J.f7 (un h))).kept hb),(fun _=>rfl),(fun h=>absurd (((Qh hcl 9 8 hLi)).symm.trans (un h)) (by simp)),(fun h=>absurd (((Qh hcl 10 9 (Qh hcl 9 8 hLi))).symm.trans (un h)) (by simp)),(fun h=>absurd (((Qh hcl 11 10 (Qh hcl 10 9 (Qh hcl 9 8 hLi)))).symm.trans (un h)) (by simp)),(fun h=>absurd (((Qh hcl 12 11 (Qh hcl 11 10 (Qh hcl 10 9 (Qh hcl 9 8 hLi))))).symm.trans (un h)) (by simp)),(fun _=>zh hB hb)⟩⟩
   ·have hN:=(Qh hcl 12 11 (Qh hcl 11 10 (Qh hcl 10 9 hLi)));have hB:=J.b hN;obtain rfl:=J.f4 (Fa haft 4);obtain rfl:=J.f8 (Fa haft 8);go_simp;exact hK _ _ ⟨_,_,_,_,_,_,_,_,_,_,_,_,_,rfl,⟨uq J.f0,uq J.f1,uq J.f2,(fun h=>(J.f3 (un h))),uq J.f4,uq J.f5,uq J.f6,(fun h=>(J.f7 (un h))),uq J.f8,(fun _=>rfl),(fun h=>absurd (((Qh hcl 10 9 hLi)).symm.trans (un h)) (by simp)),(fun h=>absurd (((Qh hcl 11 10 (Qh hcl 10 9 hLi))).symm.trans (un h)) (by simp)),(fun h=>absurd (((Qh hcl 12 11 (Qh hcl 11 10 (Qh hcl 10 9 hLi)))).symm.trans (un h)) (by simp)),(fun _=>hB)⟩⟩
   ·have hN:=(Qh hcl 12 11 (Qh hcl 11 10 hLi));have hB:=J.b hN;obtain rfl:=J.f0 (Fa haft 0);obtain rfl:=J.f9 (Fa haft 9);go_simp;exact hK _ _ ⟨_,_,_,_,_,_,_,_,_,_,_,_,_,rfl,⟨uq J.f0,uq J.f1,uq J.f2,(fun h=>(J.f3 (un h))),uq J.f4,uq J.f5,uq J.f6,(fun h=>(J.f7 (un h))),uq J.f8,uq J.f9,(fun _=>rfl),(fun h=>absurd (((Qh hcl 11 10 hLi)).symm.trans (un h)) (by simp)),(fun h=>absurd (((Qh hcl 12 11 (Qh hcl 11 10 hLi))).symm.trans (un h)) (by simp)),(fun _=>hB)⟩⟩
   ·have hN:=(Qh hcl 12 11 hLi);have hB:=J.b hN;obtain rfl:=J.f10 (Fa haft 10);have hsz:=hB.size;go_simp;exact hK _ _ ⟨_,_,_,_,_,_,_,_,_,_,_,_,_,rfl,⟨uq J.f0,uq J.f1,uq J.f2,(fun h=>((J.f3 (un h))).kept (ze (Below.refl _ _) _)),uq J.f4,uq J.f5,uq J.f6,(fun h=>((J.f7 (un h))).kept (ze (Below.refl _ _) _)),uq J.f8,uq J.f9,uq J.f10,(fun _=>⟨_,rfl,hsz,zj _ _⟩),(fun h=>absurd (((Qh hcl 12 11 hLi)).symm.trans (un h)) (by simp)),(fun _=>ze hB _)⟩⟩
   ·have hN:=hLi;have hB:=J.b hN;obtain ⟨g,rfl,hg,hx⟩:=J.f11 (Fa haft 11);go_simp;exact hK _ _ ⟨_,_,_,_,_,_,_,_,_,_,_,_,_,rfl,⟨uq J.f0,uq J.f1,uq J.f2,(fun h=>(J.f3 (un h))),uq J.f4,uq J.f5,uq J.f6,(fun h=>(J.f7 (un h))),uq J.f8,uq J.f9,uq J.f10,uq J.f11,(fun _=>⟨g,rfl,hg,hx,hB⟩),(fun h=>absurd (h.symm.trans zH) (by simp))⟩⟩
structure zkA (t:T) (hs:List Int) (pss:List (List PgS)) (E:Nat):Prop where
 tl:(t.rows.length:Int) - t.foot=E
 hd:0≤t.head∧t.head≤E
 le:E≤t.rows.length
 run:z1q hs ⟨t.head,0,false⟩ pss.flatten
 ready:z4j hs (z1X hs ⟨t.head,0,false⟩ pss.flatten) E
 rows:∀ s ∈ pss.flatten,t.head≤s.r∧s.r < E
def zkB (hs:List Int) (p:Pos) (pss:List (List PgS)) (i k:Nat):Pos:=z1X hs p ((pss.take i).flatten ++ (pss.getD i []).take k)
structure SP (w:World) (tb:Nat) (ac ar:Option Addr) (cc cr:Nat) (t:T) (vh:Value) (high:List Int) (W:World):Prop where
 st:St w tb ac ar cc cr t W
 hi:zu W vh high
theorem SP.kept {w W W':World} {tb:Nat} {ac ar:Option Addr} {cc cr:Nat} {t:T} {vh:Value} {high:List Int} (h:SP w tb ac ar cc cr t vh high W) (k:Below W.heap.size W W'):SP w tb ac ar cc cr t vh high W':=⟨h.st.kept k,h.hi.kept k⟩
theorem zgS {t:T} {width:Int} {high:List Int} (h:z2S t width high=false):z24 t width high=[]:=by unfold z24;rw [if_neg (by rw [h];simp)]
def zkC (hs:List Int) (E:Nat) (p:Pos) (s:PgS):Prop :=
 (∃ n:Nat,p.row=n∧n < E∧s.r=n∧s.f=p.line∧¬ s.t < s.f∧¬ hs.getD n 0 < s.t∧(s.f=s.t→¬ 0 < hs.getD n 0)∧z4i hs p s=⟨n,s.t,true⟩)
 ∨ (∃ n m:Nat,p.row=n∧(n:Int)+1=m∧n < E∧m < E∧p.seen=true∧p.line=hs.getD n 0∧s.r=m∧s.f=0∧¬ s.t < s.f∧¬ hs.getD m 0 < s.t∧(s.f=s.t→¬ 0 < hs.getD m 0)∧z4i hs p s=⟨m,s.t,true⟩)
def zko (hs:List Int) (a:Nat):Nat→Int
 | 0=>0
 | k+1=>zko hs a k+hs.getD (a+k) 0+1
def zkp (t:T) (hs:List Int) (r:Nat):Nat:=if z06 t (r:Int)=1 then (hs.getD r 0).toNat+1 else 0
def zkd (t:T) (hs:List Int):Nat→Nat
 | 0=>0
 | r+1=>zkd t hs r+zkp t hs r
theorem zi7 (R:Int) (k:Nat):zD [R] k=R:=by simp [zD]
structure MI (st st':List (List (List PgS)) × List (List PgS)):Prop where
 e:st.2=[] ↔ st'.2=[]
 le:st'.1.length < st.1.length∨(st'.1.length=st.1.length∧hiS st'.2.flatten≤hiS st.2.flatten)
structure HI (st:List (List (List PgS)) × List (List PgS)):Prop where
 nil:z1F st.2=[] ↔ st.2=[]
 hi:hiS (z1F st.2)=hiS st.2.flatten
 nn:0≤hiS st.2.flatten
 fst:st.2=[]→st.1=[]
theorem zbD {st:List (List (List PgS)) × List (List PgS)} (h:HI st) (p:List PgS) (R:Int):z0B (st.2.foldl zT []) p (zD [R] st.1.length)=true ↔ st.2=[]∨hiS st.2.flatten+hiS p≤R:=by
 have h1:=h.hi;have h2:=h.nil;unfold z1F at h1 h2;unfold z0B;rw [zi7,Bool.or_eq_true,decide_eq_true_eq,h1,List.isEmpty_iff,h2]
theorem z8k {g:List (List PgS)} {p:List PgS}:hiS (g ++ [p]).flatten=hiS g.flatten+hiS p:=by
 rw [List.flatten_append,z1Q];simp
theorem MI.step {R R':Int} (hR:R≤R') {st st':List (List (List PgS)) × List (List PgS)} (h:MI st st') (h1:HI st) (h2:HI st') (p:List PgS):MI (z2Y [R] st p) (z2Y [R'] st' p):=by
 have t1:=zbD h1 p R;have t2:=zbD h2 p R';have n1:=h1.nn;have n2:=h2.nn;have z1:=h1.fst;have z2:=h2.fst;obtain ⟨he,hl⟩:=h;obtain ⟨d,c⟩:=st;obtain ⟨d',c'⟩:=st';simp only at t1 t2 n1 n2 z1 z2 he hl;unfold z2Y;simp only;have hs:hiS [p].flatten=hiS p:=(by simp);by_cases a1:z0B (c.foldl zT []) p (zD [R] d.length)=true
 ·rw [if_pos a1];by_cases a2:z0B (c'.foldl zT []) p (zD [R'] d'.length)=true
  ·rw [if_pos a2];refine ⟨by simp,?_⟩;simp only;rw [z8k,z8k];omega
  ·rw [if_neg a2];have b2:¬ (c'=[]∨hiS c'.flatten+hiS p≤R'):=fun h=>a2 (t2.2 h);have b3:c' ≠ []:=fun h=>b2 (.inl h);have b4:¬ hiS c'.flatten+hiS p≤R':=fun h=>b2 (.inr h);refine ⟨by simp,?_⟩;simp only [List.length_append,List.length_cons,List.length_nil];rw [z8k,hs]
   rcases t1.1 a1 with h | h
   ·exact absurd (he.1 h) b3
   ·omega
 ·rw [if_neg a1];have b2:¬ (c=[]∨hiS c.flatten+hiS p≤R):=fun h=>a1 (t1.2 h);by_cases a2:z0B (c'.foldl zT []) p (zD [R'] d'.length)=true
  ·rw [if_pos a2];refine ⟨by simp,.inl ?_⟩;simp only [List.length_append,List.length_cons,List.length_nil];omega
  ·rw [if_neg a2];refine ⟨by simp,?_⟩;simp only [List.length_append,List.length_cons,List.length_nil];omega
theorem HI.of {rm:List Int} {ps:List (List PgS)} {st:List (List (List PgS)) × List (List PgS)} (h:GI rm ps st) (hne:∀ q ∈ ps,q ≠ []) (hm:∀ A B C,ps=A ++ B ++ C→hiS (B.foldl zT [])=hiS B.flatten) (hs:∀ s ∈ ps.flatten,s.f≤s.t):HI st:=by
 have hf:=h.flat;rw [List.flatten_append] at hf;simp only [List.flatten_cons,List.flatten_nil,List.append_nil] at hf;have hmem:∀ q ∈ st.2,q ∈ ps:=fun q hq=>by rw [← hf];simp [hq]
 refine ⟨z9H fun q hq=>hne q (hmem q hq),hm st.1.flatten st.2 [] (by rw [List.append_nil];exact hf.symm),?_,fun e=>?_⟩
 ·refine z5y fun s hs'=>?_;obtain ⟨g,hg,hsg⟩:=List.mem_flatten.1 hs';exact hs s (List.mem_flatten.2 ⟨g,hmem g hg,hsg⟩)
 ·refine h.only ?_;by_cases hp:ps=[]
  ·exact hp
  ·exact absurd e (h.ne hp st.2 (by simp))
theorem zdP {R R':Int} (hR:R≤R'):∀ (n:Nat) (ps:List (List PgS)),ps.length=n→(∀ q ∈ ps,q ≠ [])→(∀ A B C,ps=A ++ B ++ C→hiS (B.foldl zT [])=hiS B.flatten)→(∀ s ∈ ps.flatten,s.f≤s.t)→MI (ps.foldl (z2Y [R]) ([],[])) (ps.foldl (z2Y [R']) ([],[])):=by
 intro n
 induction n with
 | zero =>
  intro ps hl _ _ _;obtain rfl:ps=[]:=List.eq_nil_of_length_eq_zero hl;exact ⟨Iff.rfl,.inr ⟨rfl,Int.le_refl _⟩⟩
 | succ n ih =>
  intro ps hl hne hm hs
  rcases List.eq_nil_or_concat ps with rfl | ⟨a,p,rfl⟩
  ·cases hl
  ·rw [List.concat_eq_append] at hl hne hm hs ⊢;rw [List.foldl_append,List.foldl_append,List.foldl_cons,List.foldl_cons,List.foldl_nil,List.foldl_nil];have hne2:∀ q ∈ a,q ≠ []:=fun q hq=>hne q (List.mem_append.2 (.inl hq));have hm2:∀ A B C,a=A ++ B ++ C→hiS (B.foldl zT [])=hiS B.flatten:=fun A B C e=>hm A B (C ++ [p]) (by rw [e];simp);have hs2:∀ s ∈ a.flatten,s.f≤s.t:=fun s h=>hs s (by rw [List.flatten_append];simp [h]);exact (ih a (by simpa using hl) hne2 hm2 hs2).step hR (HI.of (z7T (rm:=[R]) hne2 hm2) hne2 hm2 hs2) (HI.of (z7T (rm:=[R']) hne2 hm2) hne2 hm2 hs2) p
theorem zf8 {t:T} (hD:z0g t) {width h h':Int} (hh:h≤h') (hp:z2S t width [h]=true) (hp':z2S t width [h']=true):(z24 t width [h']).length≤(z24 t width [h]).length∧0 < (z24 t width [h]).length:=by
 have hok2:=hp;unfold z2S at hok2;rw [Bool.and_eq_true,Bool.and_eq_true] at hok2;obtain ⟨⟨hok,_⟩,_⟩:=hok2;have hb:=zaM (t:=t) (x:=width);obtain ⟨H,E,hH,hE,hHE,hER,_,_⟩:=zcm hok;have hrun:=(z93 hD hok (fun x hx=>(hb x hx).1) hH hE hHE hER).1;have hs:=z5x hrun;unfold z24;rw [if_pos hp,if_pos hp',z7S,z7S];simp only [List.map_cons,List.map_nil];have hM:=zdP (R:=h - (hiS (z0Z t (z1j t width))+hiS (z11 t (z1j t width)))) (R':=h' - (hiS (z0Z t (z1j t width))+hiS (z11 t (z1j t width)))) (by omega) _ _ rfl zeb (fun A B C e=>(z5I hD hok hb e).2.2) hs;have hl:=hM.le;unfold z95;rw [List.length_map,List.length_map,List.length_append,List.length_append,List.length_singleton,List.length_singleton];omega
end
section
open Go.RowKit Go.BigFrame
theorem zgU (R C:Int) (ac:Option Addr) (cc:Nat) (gs:List GC) (w:World) {z:Nat} (h:z1I w z (.slice ac gs.length cc) gs) :
  Calls Tryz.prog 121 #[.agg #[.int .i64 R,.int .i64 C,.slice ac gs.length cc]] w fun e w'=>e=.returned (.bool (okB ⟨R,C,gs⟩))∧Below w.heap.size w w':=by
 obtain ⟨_,_,_,hlen⟩:=At.form h;unfold maxLen at hlen;have K0:=Hd (ze (Below.refl w.heap.size w) (.cells #[.int .i64 R,.int .i64 C,.slice ac gs.length cc] 63));have X0:=Hd (zj w (.cells #[.int .i64 R,.int .i64 C,.slice ac gs.length cc] 63));have H:=Hd h;have hmx:Tryz.prog.follows .mixedOrders=true:=(by kernel_rfl);have Q1:=Hd (z0n R 1 8);have Q2:=Hd (z0n C 1 94);clear h
 cases p1:inB R 1 8 with
 | false =>
  have HF:Hid (okB ⟨R,C,gs⟩=false):=z74 (by simp only [z3X,p1,Bool.false_and]);rw [p1] at Q1;go_enter Tryz.func121,Tryz.ntmps121;go_wp2_with fail
  refine (Q1.out _).mono ?_;rintro e w1 ⟨rfl,rfl⟩;go_wp2;go_ret;exact ⟨zN HF.out.symm,K0.out⟩
 | true =>
  rw [p1] at Q1
  cases p2:inB C 1 94 with
  | false =>
   have HF:Hid (okB ⟨R,C,gs⟩=false):=z74 (by simp only [z3X,p2,Bool.false_and,Bool.and_false]);rw [p2] at Q2;go_enter Tryz.func121,Tryz.ntmps121;go_wp2_with fail
   refine (Q1.out _).mono ?_;rintro e w1 ⟨rfl,rfl⟩;go_wp2_with fail
   refine (Q2.out _).mono ?_;rintro e w1 ⟨rfl,rfl⟩;go_wp2;go_ret;exact ⟨zN HF.out.symm,K0.out⟩
  | true =>
   rw [p2] at Q2;by_cases p3:gs.length≤40
   ·have HBB:=Hd (z7J p1 p2 p3);obtain ⟨hR1,hR2,hC1,hC2,hn⟩:=zaR HBB.out;have p3':¬ (40:Int) < (gs.length:Int):=(by omega);clear p1 p2;go_enter Tryz.func121,Tryz.ntmps121;go_wp2_with fail
    refine (Q1.out _).mono ?_;rintro e w1 ⟨rfl,rfl⟩;go_wp2_with fail
    refine (Q2.out _).mono ?_;rintro e w1 ⟨rfl,rfl⟩;go_wp2_with fail
    go_loopw [3] (fun i W=>∃ k:Nat,k≤gs.length∧i=.int .i64 k∧Hid (z64 R C gs k=true)∧Hid (Below w.heap.size w W)∧Hid (W.heap[w.heap.size]?=some (.cells #[.int .i64 R,.int .i64 C,.slice ac gs.length cc] 63))) (fun i _=>gs.length - (intOf i).toNat)
    case atStart=>exact ⟨0,Nat.zero_le _,rfl,zfx _ _ _,K0.out,X0.out⟩
    case round =>
     obtain ⟨k,hk,rfl,HO,HB,HX⟩:=hrel;have g2':wr.cell? ⟨w.heap.size,2,none⟩=some (.slice ac gs.length cc):=zf HX.out;have hz:w.heap.size < wr.heap.size:=(bL HX.out);by_cases hlt:k < gs.length
     ·have hlt':(k:Int) < (gs.length:Int):=(by omega);have h0':(0:Int)≤(k:Int):=(by omega);obtain ⟨q,off,cap',e',hc1,hc2,hbl,hx,hs⟩:=At.get (H.out.kept HB.out) hlt;simp only [Value.slice.injEq,true_and] at e';obtain ⟨rfl,rfl⟩:=e';have HN:Hid (z0U R C (gs.getD k dG)=true→z1c (gs.take k) (gs.getD k dG)=true→z64 R C gs (k+1)=true):=fun h1 h2=>zfy HO.out h1 h2;have HF:Hid ((z0U R C (gs.getD k dG) && z1c (gs.take k) (gs.getD k dG))=false→okB ⟨R,C,gs⟩=false):=fun h1=>zey (zex hlt h1);have HFit:=Hd (zaT (Nat.le_of_lt hlt) HO.out);generalize gs.getD k dG=x at hx hs HN HF;obtain ⟨x0,x1,x2,x3,x4⟩:=hx;obtain ⟨b0,b1,b2,b3,b4⟩:=hs;unfold I64 at b0 b1 b2 b3 b4;unfold maxLen at hc2;go_wp2_with fail
      obtain ⟨W1,hW1⟩:∃ W1,wr.alloc (.cells #[.int .i64 x.row,.int .i64 x.col,.int .i64 x.rows,.int .i64 x.cols,.int .i64 x.ins] 112)=W1:=⟨_,rfl⟩;rw [hW1];have hs1:W1.heap.size=wr.heap.size+1:=(by rw [← hW1];simp);have HB1:Hid (Below w.heap.size w W1):=(by rw [← hW1];exact ze HB.out _);have HX1:Hid (W1.heap[w.heap.size]?=some (.cells #[.int .i64 R,.int .i64 C,.slice (some ⟨q,off,none⟩) gs.length cc] 63)):=(by rw [← hW1];exact (Below.heap_alloc _ _ _ hz).trans HX.out);have HY1:Hid (W1.heap[wr.heap.size]?=some (.cells #[.int .i64 x.row,.int .i64 x.col,.int .i64 x.rows,.int .i64 x.cols,.int .i64 x.ins] 112)):=(by rw [← hW1];exact zj _ _);have zw:w.heap.size < W1.heap.size:=(by omega);have zr:wr.heap.size < W1.heap.size:=(by omega);clear hW1 HB HX;have g0:=zi (a:=⟨w.heap.size,0,none⟩) (v:=.int .i64 R) zw (zf HX1.out);have g1:=zi (a:=⟨w.heap.size,1,none⟩) (v:=.int .i64 C) zw (zf HX1.out);have g2:=zi (a:=⟨w.heap.size,2,none⟩) (v:=.slice (some ⟨q,off,none⟩) gs.length cc) zw (zf HX1.out);have y0:=zi (a:=⟨wr.heap.size,0,none⟩) (v:=.int .i64 x.row) zr (zf HY1.out);have y1:=zi (a:=⟨wr.heap.size,1,none⟩) (v:=.int .i64 x.col) zr (zf HY1.out);have y2:=zi (a:=⟨wr.heap.size,2,none⟩) (v:=.int .i64 x.rows) zr (zf HY1.out);have y3:=zi (a:=⟨wr.heap.size,3,none⟩) (v:=.int .i64 x.cols) zr (zf HY1.out);have y4:=zi (a:=⟨wr.heap.size,4,none⟩) (v:=.int .i64 x.ins) zr (zf HY1.out);have hne:=z0t W1;have r1:IntKind.i64.wrap (R - 1)=R - 1:=(by rw [IntKind.wrap_i64];omega);have r2:IntKind.i64.wrap (C - 1)=C - 1:=(by rw [IntKind.wrap_i64];omega)
      cases h1:inB x.row 0 (R - 1) with
      | false =>
       have HF':=Hd (HF.out (by simp only [z0U,h1,Bool.false_and]));clear HN HF HO HFit;refine zn hmx (by kernel_rfl) ?_;repeat (go_big_quiet_step (first | (go_at_call 26;refine z1s (z0n _ _ _ _))))
       refine wpQuiet_nil ?_;intro _ hw';obtain ⟨⟨W7,hW7⟩,hw''⟩:=hw';subst hw'';have HB7:=Hd (zh HB1.out hW7);clear hW7;go_wp2;go_ret;exact ⟨zN HF'.out.symm,HB7.out⟩
      | true =>
       have r3:IntKind.i64.wrap (R - x.row)=R - x.row:=by
        have:=of_decide_eq_true h1;rw [IntKind.wrap_i64];omega
       cases h2:inB x.col 0 (C - 1) with
       | false =>
        have HF':=Hd (HF.out (by simp only [z0U,h2,Bool.false_and,Bool.and_false]));clear HN HF HO HFit;refine zn hmx (by kernel_rfl) ?_;repeat (go_big_quiet_step (first | (go_at_call 26;refine z1s (z0n _ _ _ _))))
        refine wpQuiet_nil ?_;intro _ hw';obtain ⟨⟨W7,hW7⟩,hw''⟩:=hw';subst hw'';have HB7:=Hd (zh HB1.out hW7);clear hW7;go_wp2;go_ret;exact ⟨zN HF'.out.symm,HB7.out⟩
       | true =>
        have r4:IntKind.i64.wrap (C - x.col)=C - x.col:=by
         have:=of_decide_eq_true h2;rw [IntKind.wrap_i64];omega
        cases h3:inB x.rows 1 (R - x.row) with
        | false =>
         have HF':=Hd (HF.out (by simp only [z0U,h3,Bool.false_and,Bool.and_false]));clear HN HF HO HFit;refine zn hmx (by kernel_rfl) ?_;repeat (go_big_quiet_step (first | (go_at_call 26;refine z1s (z0n _ _ _ _))))
         refine wpQuiet_nil ?_;intro _ hw';obtain ⟨⟨W7,hW7⟩,hw''⟩:=hw';subst hw'';have HB7:=Hd (zh HB1.out hW7);clear hW7;go_wp2;go_ret;exact ⟨zN HF'.out.symm,HB7.out⟩
        | true =>
         cases h4:inB x.cols 1 (C - x.col) with
         | false =>
          have HF':=Hd (HF.out (by simp only [z0U,h4,Bool.false_and,Bool.and_false]));clear HN HF HO HFit;refine zn hmx (by kernel_rfl) ?_;repeat (go_big_quiet_step (first | (go_at_call 26;refine z1s (z0n _ _ _ _))))
          refine wpQuiet_nil ?_;intro _ hw';obtain ⟨⟨W7,hW7⟩,hw''⟩:=hw';subst hw'';have HB7:=Hd (zh HB1.out hW7);clear hW7;go_wp2;go_ret;exact ⟨zN HF'.out.symm,HB7.out⟩
         | true =>
          cases h5:inB x.ins 0 4 with
          | false =>
           have HF':=Hd (HF.out (by simp only [z0U,h5,Bool.and_false,Bool.false_and]));clear HN HF HO HFit;refine zn hmx (by kernel_rfl) ?_;repeat (go_big_quiet_step (first | (go_at_call 26;refine z1s (z0n _ _ _ _))))
           refine wpQuiet_nil ?_;intro _ hw';obtain ⟨⟨W7,hW7⟩,hw''⟩:=hw';subst hw'';have HB7:=Hd (zh HB1.out hW7);clear hW7;go_wp2;go_ret;exact ⟨zN HF'.out.symm,HB7.out⟩
          | true =>
           have hfit:z0U R C x=true:=(by simp only [z0U,h1,h2,h3,h4,h5,Bool.and_self]);have hl:(gs.take k).length=k:=(by rw [List.length_take];omega);have KL:=Hd (fun (p:BW W1)=>z9z (some ⟨q,off,none⟩) cc (gs.take k) (fun a ha=>ze3 (HFit.out a ha) hR2 hC2) x (ze3 hfit hR2 hC2) p.u (((H.out.kept HB1.out).kept p.h).take hk));rw [hl] at KL
           cases hfr:z1c (gs.take k) x with
           | false =>
            rw [hfr] at KL;have HF':=Hd (HF.out (by simp only [hfr,Bool.and_false]));clear HN HF HO HFit hfit hfr hl;refine zn hmx (by kernel_rfl) ?_;repeat (go_big_quiet_step (first | (go_at_call 26;refine z1s (z0n _ _ _ _)) | (go_at_call 71;refine z33 (KL.out _))))
            refine wpQuiet_nil ?_;intro _ hw';obtain ⟨⟨W7,hW7⟩,hw''⟩:=hw';subst hw'';have HB7:=Hd (zh HB1.out hW7);clear hW7;go_wp2;go_ret;exact ⟨zN HF'.out.symm,HB7.out⟩
           | true =>
            rw [hfr] at KL;have HN':=Hd (HN.out hfit hfr);clear HN HF HO HFit hfit hfr hl;refine zn hmx (by kernel_rfl) ?_;repeat (go_big_quiet_step (first | (go_at_call 26;refine z1s (z0n _ _ _ _)) | (go_at_call 71;refine z33 (KL.out _))))
            refine wpQuiet_nil ?_;intro _ hw';obtain ⟨⟨W7,hW7⟩,hw''⟩:=hw';subst hw'';have HB7:=Hd (zh HB1.out hW7);have HX7:=Hd ((hW7.block w.heap.size zw).trans HX1.out);clear hW7;go_wp2;go_roundw
            case rel=>exact ⟨k+1,by omega,by go_num,HN',HB7,HX7⟩
            case measure=>simp [intOf];omega
     ·obtain rfl:k=gs.length:=by omega
      have HF:Hid (okB ⟨R,C,gs⟩=true):=by
       show okB _=true;simp only [okB,HBB.out,HO.out,Bool.and_self]
      clear HO;go_wp2;go_ret;exact ⟨zN HF.out.symm,HB.out⟩
   ·have p3':(40:Int) < (gs.length:Int):=(by omega);have HF:Hid (okB ⟨R,C,gs⟩=false):=z74 (by simp only [z3X,p3,decide_false,Bool.and_false]);go_enter Tryz.func121,Tryz.ntmps121;go_wp2_with fail
    refine (Q1.out _).mono ?_;rintro e w1 ⟨rfl,rfl⟩;go_wp2_with fail
    refine (Q2.out _).mono ?_;rintro e w1 ⟨rfl,rfl⟩;go_wp2;go_ret;exact ⟨zN HF.out.symm,K0.out⟩
theorem zf9 (gs:List GC) (row:Int) (k:Nat) (hk:k < gs.length):(!(gs.take (k+1)).any (z22 row))=((!(gs.take k).any (z22 row)) && !z22 row (gs.getD k dG)):=by
 rw [List.take_succ_eq_append_getElem hk,List.any_append];simp [List.getD,hk]
theorem zbV (R C:Int) (ac:Option Addr) (cc:Nat) (gs:List GC) (w:World) {z:Nat} (h:z1I w z (.slice ac gs.length cc) gs) :
  Calls Tryz.prog 91 #[.agg #[.int .i64 R,.int .i64 C,.slice ac gs.length cc]] w fun e w'=>∃ v,e=.returned v∧zq w' w.heap.size w'.heap.size v (z5X ⟨R,C,gs⟩)∧Below w.heap.size w w':=by
 obtain ⟨_,_,_,hlen⟩:=At.form h;unfold maxLen at hlen;obtain ⟨i0,hi,hz0,hz1,hz2⟩:=info_parts z9x;have K0:=Hd (ze (ze (Below.refl w.heap.size w) (.cells #[.int .i64 R,.int .i64 C,.slice ac gs.length cc] 63)) (.cells #[] 3));have H:=Hd h;clear h;have KO:=Hd (zgU R C ac cc gs _ (H.out.kept K0.out))
 cases ho:okB ⟨R,C,gs⟩ with
 | false =>
  have HF:=Hd (zeB ho);rw [ho] at KO;clear ho;go_enter Tryz.func91,Tryz.ntmps91;go_wp2_with fail
  refine KO.out.mono ?_;rintro e w1 ⟨rfl,hb1⟩;have K1:=Hd (zh K0.out hb1);have E1:Hid (w1.heap[w.heap.size+1]?=some (.cells #[] 3)):=Hd ((hb1.block (w.heap.size+1) (by simp)).trans (by have:=zj (w.alloc (.cells #[.int .i64 R,.int .i64 C,.slice ac gs.length cc] 63)) (.cells #[] 3);rwa [World.size_alloc] at this));clear hb1;go_wp2;go_ret;refine ⟨_,rfl,?_,K1.out⟩;rw [HF.out];refine .inr ⟨w.heap.size+1,0,#[],rfl,by omega,(bL E1.out),E1.out,Nat.le_refl _,Nat.zero_le _,rfl,fun i hi=>absurd hi (Nat.not_lt_zero _)⟩
 | true =>
  have HF:=Hd (z9w ho);rw [ho] at KO;have ho2:=ho;simp only [okB,Bool.and_eq_true] at ho2;obtain ⟨hR1,hR2,hC1,hC2,hn⟩:=zaR ho2.1;have HFit:=Hd (zaT (Nat.le_refl _) ho2.2);rw [List.take_length] at HFit;obtain ⟨Rn,rfl⟩:∃ Rn:Nat,R=Rn:=⟨R.toNat,by omega⟩;clear ho ho2;go_enter Tryz.func91,Tryz.ntmps91;go_wp2_with fail
  refine KO.out.mono ?_;rintro e w1 ⟨rfl,hb1⟩;have K1:=Hd (zh K0.out hb1);have X1:=Hd ((hb1.block w.heap.size (by simp;omega)).trans ((Below.heap_alloc _ _ _ (by simp)).trans (zj _ _)));have E1:Hid (w1.heap[w.heap.size+1]?=some (.cells #[] 3)):=Hd ((hb1.block (w.heap.size+1) (by simp)).trans (by have:=zj (w.alloc (.cells #[.int .i64 (Rn:Int),.int .i64 C,.slice ac gs.length cc] 63)) (.cells #[] 3);rwa [World.size_alloc] at this));have hs1:w.heap.size+2≤w1.heap.size:=(by have:=hb1.size;simp at this;omega)
  have HO1:Hid (w1.ownsRow (w.heap.size+1) 3 1 (.slice (some ⟨w.heap.size+1,0,none⟩) 0 0) (zG gs 0).length ((zG gs 0).map (Value.int .i64))) :=
   ⟨by simp,.inr ⟨w.heap.size+1,0,#[],rfl,Nat.le_refl _,E1.out,Nat.le_refl _,Nat.zero_le _,rfl,rfl⟩⟩
  clear hb1;go_wp2_with fail
  go_loopw [4,3] (fun i v W=>∃ (k:Nat) (vb:Value),k≤Rn∧i=.int .i64 k∧v=vb∧Hid (W.ownsRow (w.heap.size+1) 3 1 vb (zG gs k).length ((zG gs k).map (Value.int .i64)))∧Hid (Below w.heap.size w W)∧Hid (W.heap[w.heap.size]?=some (.cells #[.int .i64 (Rn:Int),.int .i64 C,.slice ac gs.length cc] 63))∧w.heap.size+2≤W.heap.size) (fun i _ _=>Rn - (intOf i).toNat)
  case atStart=>exact ⟨0,_,Nat.zero_le _,rfl,rfl,HO1,K1,X1,hs1⟩
  case round =>
   obtain ⟨k,vb,hk,rfl,rfl,HO,HB,HX,hsr⟩:=hrel;have g0:wr.cell? ⟨w.heap.size,0,none⟩=some (.int .i64 (Rn:Int)):=zf HX.out;by_cases hlt:k < Rn
   ·have hbl:=z38 gs k;go_wp2_with fail
    go_loopw [6,5] (fun i f W=>∃ (j n:Nat),j≤gs.length∧i=.int .i64 j∧f=.bool (!(gs.take j).any (z22 (k:Int)))∧W=wr.drewN n) (fun i _ _=>gs.length - (intOf i).toNat)
    case atStart=>exact ⟨0,0,Nat.zero_le _,rfl,rfl,rfl⟩
    case round =>
     obtain ⟨j,nd,hj,rfl,rfl,rfl⟩:=hrel;have g2:wr.cell? ⟨w.heap.size,2,none⟩=some (.slice ac gs.length cc):=zf HX.out;by_cases hlj:j < gs.length
     ·have hlj':(j:Int) < (gs.length:Int):=(by omega);have h0':(0:Int)≤(j:Int):=(by omega);obtain ⟨q,off,cap',e',hc1,hc2,hbq,hx,hs⟩:=At.get (H.out.kept HB.out) hlj;simp only [Value.slice.injEq,true_and] at e';obtain ⟨rfl,rfl⟩:=e';have HS:=Hd (zf9 gs (k:Int) j hlj);have hfit:z0U (Rn:Int) C (gs.getD j dG)=true:=HFit.out _ (by simp [List.getD,hlj]);obtain ⟨e1,e2,e3,e4,f1,f2,f3,f4⟩:=z3Y hfit;generalize gs.getD j dG=x at *;generalize (!(gs.take j).any (z22 (k:Int)))=fb at *;obtain ⟨x0,x1,x2,x3,x4⟩:=hx;unfold maxLen at hc2;have b0:0≤x.row∧x.row≤8∧0≤x.rows∧x.rows≤8:=(by omega);clear hs hfit e1 e2 e3 e4 f1 f2 f3 f4
      cases fb with
      | false =>
       have HS':Hid ((!(gs.take (j+1)).any (z22 (k:Int)))=false):=(by show (!(gs.take (j+1)).any (z22 (k:Int)))=false;rw [HS.out];rfl);clear HS;go_wp2_with fail
       go_quiet (fail)
       go_wp2;go_roundw
       case rel=>exact ⟨j+1,nd+nq,by omega,by go_num,by rw [HS'.out],rfl⟩
       case measure=>simp [intOf];omega
      | true =>
       by_cases h1:x.row < (k:Int)
       ·have d1:decide (x.row < (k:Int))=true:=decide_eq_true h1;by_cases h2:(k:Int) < x.row+x.rows
        ·have d2:decide ((k:Int) < x.row+x.rows)=true:=decide_eq_true h2;have HS':Hid ((!(gs.take (j+1)).any (z22 (k:Int)))=false):=(by show (!(gs.take (j+1)).any (z22 (k:Int)))=false;rw [HS.out];simp only [z22,d1,d2];rfl);clear HS;go_wp2_with fail
         go_quiet (fail)
         go_wp2;go_roundw
         case rel=>exact ⟨j+1,nd+nq,by omega,by go_num,by rw [HS'.out],rfl⟩
         case measure=>simp [intOf];omega
        ·have d2:decide ((k:Int) < x.row+x.rows)=false:=decide_eq_false h2;have HS':Hid ((!(gs.take (j+1)).any (z22 (k:Int)))=true):=(by show (!(gs.take (j+1)).any (z22 (k:Int)))=true;rw [HS.out];simp only [z22,d1,d2];rfl);clear HS;go_wp2_with fail
         go_quiet (fail)
         go_wp2;go_roundw
         case rel=>exact ⟨j+1,nd+nq,by omega,by go_num,by rw [HS'.out],rfl⟩
         case measure=>simp [intOf];omega
       ·have d1:decide (x.row < (k:Int))=false:=decide_eq_false h1;have HS':Hid ((!(gs.take (j+1)).any (z22 (k:Int)))=true):=(by show (!(gs.take (j+1)).any (z22 (k:Int)))=true;rw [HS.out];simp only [z22,d1];rfl);clear HS;go_wp2_with fail
        go_quiet (fail)
        go_wp2;go_roundw
        case rel=>exact ⟨j+1,nd+nq,by omega,by go_num,by rw [HS'.out],rfl⟩
        case measure=>simp [intOf];omega
     ·obtain rfl:j=gs.length:=by omega
      have HO2:Hid ((wr.drewN nd).ownsRow (w.heap.size+1) 3 1 _ (zG gs k).length ((zG gs k).map (Value.int .i64))):=HO.out;have HB2:=Hd (z3V HB.out nd);have HX2:Hid ((wr.drewN nd).heap[w.heap.size]?=some (.cells #[.int .i64 (Rn:Int),.int .i64 C,.slice ac gs.length cc] 63)):=HX.out;have hs2:w.heap.size+2≤(wr.drewN nd).heap.size:=hsr;have hfb:(!(gs.take gs.length).any (z22 (k:Int)))=!z26 gs (k:Int):=(by rw [List.take_length];rfl);rw [hfb];clear hfb;generalize wr.drewN nd=w2 at *;have g3:w2.cell? ⟨w.heap.size,2,none⟩=some (.slice ac gs.length cc):=zf HX2.out
      cases h1:z26 gs (k:Int) with
      | true =>
       have HS:=Hd (z7K h1);rw [show (!true)=false from rfl];clear h1;go_wp2;go_roundw
       case rel=>exact ⟨k+1,_,by omega,by go_num,rfl,by rw [HS.out];exact HO2,HB2,HX2,hs2⟩
       case measure=>simp [intOf];omega
      | false =>
       have HS:=Hd (z8H h1);have hO2:=HO2.out;rw [show (!false)=true from rfl];clear h1 HO HO2;go_wp2_with (at_builtin;refine wpList_append_own _ rfl _ _ 36 rfl (w.heap.size+1) 3 i0 (.int .i64 0) 1 8 Tryz.underlying36 hi hz0 hz1 hz2 rfl (by decide) _ _ _ rfl (hO2.alloc _) ⟨w2.heap.size,0,none⟩ 1 1 [.int .i64 (k:Int)] rfl rfl ?c1 ?c2 ?c3 ?c4 ?c5 ?_)
       case c1 =>
        intro i u hi
        match i,hi with
        | 0,hi=>simp at hi;subst hi;simp [Addr.add]
       case c2=>intro u hu;simp at hu;subst hu;rfl
       case c3=>unfold maxLen;omega
       case c4=>omega
       case c5=>simp;omega
       intro v' w5 hown' hgrow' _;have hne:=ze2 hO2 (Nat.lt_succ_self w.heap.size);have HB5:Hid (Below w.heap.size w w5):=(ze HB2.out _).grown hgrow' (by simp;omega) (fun j e=>by have:=zfC hO2 e;omega);have HX5:Hid (w5.heap[w.heap.size]?=_):=Hd ((hgrow'.block w.heap.size (by simp;omega) hne).trans ((Below.heap_alloc _ _ _ (by omega)).trans HX2.out));have hs5:w.heap.size+2≤w5.heap.size:=(by have:=hgrow'.size;simp at this;omega);have HO5:Hid (w5.ownsRow (w.heap.size+1) 3 1 v' (zG gs (k+1)).length ((zG gs (k+1)).map (Value.int .i64))):=Hd (by rw [HS.out];simpa using hown');obtain ⟨g',cap',rfl⟩:=Joins.ownsRow_form hown' (by omega);clear hown' hgrow' hO2 hne;go_wp2;go_roundw
       case rel=>exact ⟨k+1,_,by omega,by go_num,rfl,HO5,HB5,HX5,hs5⟩
       case measure=>simp [intOf];omega
   ·obtain rfl:k=Rn:=by omega
    go_wp2;go_ret;refine ⟨_,rfl,?_,HB.out⟩;rw [HF.out];exact (zq.of_owns HO.out).base (by omega) (Nat.le_refl _)
end
end Go.Proofs.YtggmjiddadjilamGreat
