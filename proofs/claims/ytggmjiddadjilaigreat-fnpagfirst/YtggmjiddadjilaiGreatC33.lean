/-
  PROVED HERE: the program's PagBody at a drawn table, any width and heights: the pages of its body, in memory of their own; nothing that was in memory is turned. Also: 5 more texts of the same proof.
-/
import Derived.Test.YtggmjiddadjilaiGreatC20
import Derived.Test.YtggmjiddadjilaiGreatC32
import Derived.Test.YtggmjiddadjilaiGreatC27
set_option maxRecDepth 1000000
set_option maxHeartbeats 40000000
namespace Go.Proofs.YtggmjiddadjilaiGreat
section
open Go.RowKit
def z19 (t:T) (width:Int) (high:List Int):List (List PgS):=if z4d t width high=true then z3v (high.map (· - (hiS (z0w t (zA t width))+hiS (z0x t (zA t width))))) (z0u t (zA t width)) else []
theorem zdt {t:T} (hok:zr t=true) {hs:List Int} (hb:∀ x ∈ hs,0≤x∧x≤1000):(z0u t hs).length≤9000:=by
 have h1:=z6E (t:=t) hb (zQ (gOf t).cells t.rows.length) (zU (gOf t).cells t.rows.length).length;have h2:=z52 (gOf t).cells t.rows.length;have h3:=(z16 hok).1.2;unfold z0u;omega
theorem z9g {t:T} {x:Int}:∀ y ∈ zA t x,0≤y∧y≤1000:=by
 intro y hy;have hne:(zA t x).length ≠ 0:=fun h=>by rw [List.eq_nil_of_length_eq_zero h] at hy;cases hy
 obtain ⟨hok,_,e,_⟩:=zeV hne;rw [e] at hy;exact zds (zgv t (zW t x) (gOf t).cells) t.rows.length y hy
theorem zgf {t:T} (hD:zY t) (hok:zr t=true) {hs:List Int} (hb:∀ x ∈ hs,0≤x∧x≤1000) (j:Nat):(∀ k,k≤((z0u t hs).drop j).length→z48 ((((z0u t hs).drop j).take k).foldl zK [])∧((((z0u t hs).drop j).take k).foldl zK []).length≤50000)∧∀ p ∈ (z0u t hs).drop j,z48 p∧p.length≤50000:=by
 refine ⟨fun k _=>?_,fun p hp=>ze9 hD hok hb (List.mem_of_mem_drop hp)⟩;have e:z0u t hs=(z0u t hs).take j ++ ((z0u t hs).drop j).take k ++ ((z0u t hs).drop j).drop k:=(by rw [List.append_assoc,List.take_append_drop,List.take_append_drop]);have h:=z8e hD hok hb e;exact ⟨h.1,h.2.1⟩
def zhQ:Value→Nat
 | .slice _ n _=>n
 | _=>0
def PJ9 (bb B z:Nat) (w0:World) (vh:Value) (bes:Int) (rm:List Int) (pcs:List (List PgS)) (vl:Value) (W:World):Prop :=
 ∃ (j:Nat) (pgs:List (List PgS)) (us:List Value) (a:Option Addr) (c:Nat),(∀ W',BF bb B W W'→z0H W' z vl (pcs.drop j))∧W.heap[bb]?=some (.cells #[.slice a pgs.length c,vh,.int .i64 bes] 76)∧W.ownsRow B 27 1 (.slice a pgs.length c) pgs.length us∧zB W B us pgs∧BF bb B w0 W ∧
  z3v rm pcs=z4H rm pgs (pcs.drop j)∧pgs.length≤j+1∧j≤pcs.length
structure PI9 (w:World) (z:Nat) (ac ar:Option Addr) (cc cr:Nat) (t:T) (hs:List Int) (vr:Value) (W:World):Prop where
 below:Below w.heap.size w W
 box:W.heap[w.heap.size]?=some (.cells #[.slice ac t.cols.length cc,.int .i64 t.head,.int .i64 t.foot,.slice ar t.rows.length cr,.int .i64 t.gap] 33)
 ta:TA W z ac ar cc cr t
 hts:zH W vr hs
theorem PI9.kept {w:World} {z:Nat} {ac ar:Option Addr} {cc cr:Nat} {t:T} {hs:List Int} {vr:Value} {W W':World} (h:PI9 w z ac ar cc cr t hs vr W) (k:Below W.heap.size W W'):PI9 w z ac ar cc cr t hs vr W' :=
 ⟨zh h.below k,(k.block _ (bL h.box)).trans h.box,h.ta.kept k,h.hts.kept k⟩
structure PiJ (w:World) (z:Nat) (ac ar:Option Addr) (cc cr:Nat) (t:T) (hs high:List Int) (vr:Value) (ah:Option Addr) (ch:Nat) (W3:World) (L:Nat→Bool) (W:World) (v8 v18 v19 v20 v21 v22 v23 v24 v25 v26 v27 v28 v29:Value):Prop where
 f0:L 0=true→v18=.slice ah high.length ch
 f1:L 1=true→v19=.agg #[.slice ac t.cols.length cc,.int .i64 t.head,.int .i64 t.foot,.slice ar t.rows.length cr,.int .i64 t.gap]
 f2:L 2=true→v20=vr
 f3:L 3=true→zS W W3.heap.size v21 (z0w t hs)
 f4:L 4=true→v22=.int .i64 (hiS (z0w t hs))
 f5:L 5=true→v23=.agg #[.slice ac t.cols.length cc,.int .i64 t.head,.int .i64 t.foot,.slice ar t.rows.length cr,.int .i64 t.gap]
 f6:L 6=true→v24=vr
 f7:L 7=true→zS W W3.heap.size v25 (z0x t hs)
 f8:L 8=true→v26=.int .i64 (hiS (z0x t hs))
 f9:L 9=true→v27=.int .i64 (hiS (z0w t hs)+hiS (z0x t hs))
 f10:L 10=true→v28=.agg #[.slice none 0 0,.slice ah high.length ch,.int .i64 (hiS (z0w t hs)+hiS (z0x t hs))]
 f11:L 11=true→∃ g,v29=.pointer (some ⟨g,0,none⟩)∧W3.heap.size≤g∧W.heap[g]?=some (.cells #[.slice none 0 0,.slice ah high.length ch,.int .i64 (hiS (z0w t hs)+hiS (z0x t hs))] 76)
 f12:L 12=true→∃ g,v8=.pointer (some ⟨g,0,none⟩)∧W3.heap.size≤g∧W.heap[g]?=some (.cells #[.slice none 0 0,.slice ah high.length ch,.int .i64 (hiS (z0w t hs)+hiS (z0x t hs))] 76)∧Below W3.heap.size W3 W
 b:L 12=false→Below W3.heap.size W3 W
theorem zce (ac ar:Option Addr) (cc cr:Nat) (t:T) (hD:zY t) (width:Int) (vh:Value) (high:List Int) (w:World) {z:Nat} (hc:zX w z (.slice ac t.cols.length cc) t.cols) (hr:zT w z (.slice ar t.rows.length cr) t.rows) (hh:zH w vh high) :
  Calls Tryz.prog 11 #[.agg #[.slice ac t.cols.length cc,.int .i64 t.head,.int .i64 t.foot,.slice ar t.rows.length cr,.int .i64 t.gap],.int .i64 width,vh] w fun e w'=>∃ v us,e=.returned v∧w'.ownsRow w.heap.size 27 1 v us.length us∧zB w' w.heap.size us (z19 t width high)∧Below w.heap.size w w':=by
 have hmx:Tryz.prog.follows .mixedOrders=true:=(by kernel_rfl);obtain ⟨ah,ch,rfl,_⟩:=hh.form;have HK0:=Hd (ze (Below.refl w.heap.size w) (.cells #[.slice ac t.cols.length cc,.int .i64 t.head,.int .i64 t.foot,.slice ar t.rows.length cr,.int .i64 t.gap] 33));have HX0:=Hd (zl w (.cells #[.slice ac t.cols.length cc,.int .i64 t.head,.int .i64 t.foot,.slice ar t.rows.length cr,.int .i64 t.gap] 33));have HT0:Hid (TA w z ac ar cc cr t):=⟨hc,hr⟩;have HVH:=Hd (fun W (k:Below w.heap.size w W)=>hh.kept k);have hs0:(w.alloc (.cells #[.slice ac t.cols.length cc,.int .i64 t.head,.int .i64 t.foot,.slice ar t.rows.length cr,.int .i64 t.gap] 33)).heap.size=w.heap.size+1:=(by simp);have KO:=Hd (fun W (k:Below w.heap.size w W)=>zeW ac ar cc cr t width _ high W (HT0.out.kept k).1 (HT0.out.kept k).2 (HVH.out W k));clear hc hr hh;go_enter Tryz.func11,Tryz.ntmps11;go_upto_region 1 with fail
 generalize w.alloc (.cells #[.slice ac t.cols.length cc,.int .i64 t.head,.int .i64 t.foot,.slice ar t.rows.length cr,.int .i64 t.gap] 33)=W0 at HK0 HX0 hs0 ⊢;obtain ⟨b0,b1,b2,b3,b4⟩:=z0l HX0.out
 cases hok:z4d t width high with
 | false =>
  rw [hok] at KO;have HF:Hid (z19 t width high=[]):=Hd (by unfold z19;rw [if_neg (by rw [hok];simp)]);clear hok;go_wp2_with fail
  refine (KO.out _ HK0.out).mono ?_;rintro e w1 ⟨rfl,hb1⟩;have HK1:=Hd (zh HK0.out hb1);clear hb1 b0 b1 b2 b3 b4;go_wp2;go_ret;exact ⟨_,[],rfl,⟨rfl,.inl ⟨rfl,rfl⟩⟩,by rw [HF.out];exact zB.nil _ _,HK1.out⟩
 | true =>
  rw [hok] at KO;have HF:Hid (z19 t width high=z3v (high.map (· - (hiS (z0w t (zA t width))+hiS (z0x t (zA t width))))) (z0u t (zA t width))):=Hd (by unfold z19;rw [if_pos hok]);have hok2:=hok;unfold z4d at hok2;rw [Bool.and_eq_true,Bool.and_eq_true,Bool.and_eq_true] at hok2;obtain ⟨⟨htk,hwd⟩,hln,hhs⟩:=hok2;have hi1:0 < high.length:=(by have h:=of_decide_eq_true hln;omega);have hi2:high.length≤60:=(by have h:=of_decide_eq_true hln;omega);have HHB:Hid (∀ x ∈ high,0≤x∧x≤100):=Hd (fun x hx=>of_decide_eq_true (List.all_eq_true.1 hhs x hx))
  have hRl:(zA t width).length=t.rows.length:=by
   unfold zA z5X;rw [if_pos (by rw [htk,hwd];rfl),z0R]
  have HRb:=Hd (z9g (t:=t) (x:=width));have hR8:=z16 htk;have KR:=Hd (fun W (h:TA W z ac ar cc cr t)=>zcd ac ar cc cr t hD width W h.1 h.2);generalize zA t width=hs at HF hRl HRb KR;have KH:=Hd (fun (v:Value) W (h:zH W v hs)=>zd5 (.slice ac t.cols.length cc) (.slice ar t.rows.length cr) t htk hs hRl v W h);have KF:=Hd (fun (v:Value) W (h:zH W v hs)=>zd6 (.slice ac t.cols.length cc) (.slice ar t.rows.length cr) t htk hs hRl v W h);have hlh:z48 (z0w t hs):=z8h HRb.out (by omega);have hlf:z48 (z0x t hs):=z8h HRb.out (by omega);have KA:=Hd (fun (v:Value) W z (h:z2p W z v (z0w t hs))=>(z67 hlh ▸ z4i v (z0w t hs) W h:Calls Tryz.prog 37 #[v] W fun e w'=>e=.returned (.int .i64 (hiS (z0w t hs)))∧Below W.heap.size W w'));have KB:=Hd (fun (v:Value) W z (h:z2p W z v (z0x t hs))=>(z67 hlf ▸ z4i v (z0x t hs) W h:Calls Tryz.prog 37 #[v] W fun e w'=>e=.returned (.int .i64 (hiS (z0x t hs)))∧Below W.heap.size W w'));have KC:=Hd (fun (v:Value) W (h:TA W z ac ar cc cr t) (hv:zH W v hs)=>zb1 ac ar cc cr t hD htk hs hRl HRb.out v W h.1 h.2 hv);unfold z48 at hlh hlf;have hwr:IntKind.i64.wrap (hiS (z0w t hs)+hiS (z0x t hs))=hiS (z0w t hs)+hiS (z0x t hs):=(by rw [IntKind.wrap_i64];omega)
  have hbs:0≤hiS (z0w t hs)+hiS (z0x t hs)∧hiS (z0w t hs)+hiS (z0x t hs)≤1000000:=by
   have a1:=z5s HRb.out t.head.toNat 0 (by omega);have a2:=z5s HRb.out t.foot.toNat (t.rows.length - t.foot.toNat) (by omega);unfold z0w z0x;omega
  have HPL:Hid ((z0u t hs).length≤9000):=Hd (zdt htk HRb.out);clear hok hln hhs hwd hRl;go_wp2_with fail
  refine (KO.out _ HK0.out).mono ?_;rintro e w1 ⟨rfl,hb1⟩;have HX1:=Hd ((hb1.block w.heap.size (by omega)).trans HX0.out);have HK1:=Hd (zh HK0.out hb1);have hs1:w.heap.size < w1.heap.size:=(by have:=hb1.size;omega);clear hb1 b0 b1 b2 b3 b4 HX0 HK0 hs0 KO;obtain ⟨b0,b1,b2,b3,b4⟩:=z0l HX1.out;go_wp2_with fail
  refine (KR.out _ (HT0.out.kept HK1.out)).mono ?_;rintro e W3 ⟨vr,rfl,hI3,hb3⟩;have HP3:Hid (PI9 w z ac ar cc cr t hs vr W3):=Hd ⟨zh HK1.out hb3,(hb3.block w.heap.size hs1).trans HX1.out,HT0.out.kept (zh HK1.out hb3),hI3.at⟩;have HWz:Hid (w.heap.size≤W3.heap.size):=Hd (by have:=hb3.size;omega);clear hI3 hb3 b0 b1 b2 b3 b4 HX1 HK1 KR hs1;go_upto_region 4 with fail
  refine z0B (fun L act W=>∃ v8 v18 v19 v20 v21 v22 v23 v24 v25 v26 v27 v28 v29:Value,act=⟨#[.agg #[.slice ac t.cols.length cc,.int .i64 t.head,.int .i64 t.foot,.slice ar t.rows.length cr,.int .i64 t.gap],.int .i64 width,.slice ah high.length ch,.pointer (some ⟨w.heap.size,0,none⟩),undef,undef,.slice none 0 0,vr,v8,undef,.agg #[.slice ac t.cols.length cc,.int .i64 t.head,.int .i64 t.foot,.slice ar t.rows.length cr,.int .i64 t.gap],.int .i64 width,.slice ah high.length ch,.bool true,.bool false,.agg #[.slice ac t.cols.length cc,.int .i64 t.head,.int .i64 t.foot,.slice ar t.rows.length cr,.int .i64 t.gap],.int .i64 width,vr,v18,v19,v20,v21,v22,v23,v24,v25,v26,v27,v28,v29,undef,undef,undef,undef,undef,undef,undef,undef,undef,undef,undef,undef,undef,undef,undef],[]⟩∧PiJ w z ac ar cc cr t hs high vr ah ch W3 L W v8 v18 v19 v20 v21 v22 v23 v24 v25 v26 v27 v28 v29) hmx (by kernel_rfl) ?hs ?hd ?h0
  case h0=>exact ⟨_,_,_,_,_,_,_,_,_,_,_,_,_,rfl,⟨(fun h=>by cases h),(fun h=>by cases h),(fun h=>by cases h),(fun h=>by cases h),(fun h=>by cases h),(fun h=>by cases h),(fun h=>by cases h),(fun h=>by cases h),(fun h=>by cases h),(fun h=>by cases h),(fun h=>by cases h),(fun h=>by cases h),(fun h=>by cases h),(fun _=>z1U (Below.refl _ _))⟩⟩
  case hd =>
   intro L act W hJ hall;obtain ⟨v8,v18,v19,v20,v21,v22,v23,v24,v25,v26,v27,v28,v29,ha,J⟩:=hJ;subst ha;obtain ⟨bb,rfl,hbb,hbx,hKB⟩:=J.f12 (hall 12 (by decide));clear J hall;have HP4:=Hd (HP3.out.kept hKB);have HBX:=Hd hbx;have hlb:=(bL hbx);have hsz4:=hKB.size;clear hKB hbx KH KF KA KB HP3 hwr;obtain ⟨b0,b1,b2,b3,b4⟩:=z0l HP4.out.box;go_wp2_with fail
   refine (KC.out _ _ HP4.out.ta HP4.out.hts).mono ?_;rintro e w5 ⟨vp,up,rfl,hOp,hRp,hb5⟩;have hPp:z0H w5 W.heap.size vp (z0u t hs):=hRp.pss hOp (Nat.le_refl _) (Nat.le_refl _);have hP5:=HP4.out.kept hb5;have HBX5:=Hd ((hb5.block bb hlb).trans HBX.out);have hlb5:bb < w5.heap.size:=Nat.lt_of_lt_of_le hlb hb5.size;have hw5:w.heap.size≤bb:=Nat.le_trans (HWz.out) hbb;have HB5:=Hd hP5.below;have HCV:Hid (∀ W',BF bb w5.heap.size w5 W'→Below w.heap.size w5 W'):=Hd (fun W' k=>⟨k.os,k.tape,k.output,k.size,fun q hq=>k.block q (by omega) (by omega)⟩);have HV:=Hd (fun W' (k:BF bb w5.heap.size w5 W')=>HVH.out W' (HB5.out.trans (HCV.out W' k)));have HPC:Hid (∀ W',BF bb w5.heap.size w5 W'→z0H W' W.heap.size vp (z0u t hs)):=Hd (fun W' k=>hPp.since ⟨k.size,fun q h1 h2=>k.block q h2 (by omega)⟩);obtain ⟨ap,cp,rfl,_⟩:=At.form hPp;clear hOp hRp hb5 hPp hP5 HP4 HBX KC b0 b1 b2 b3 b4 hbb hlb HWz;have HLL:=Hd (fun (j:Nat)=>zgf hD htk HRb.out j);have HRS:=Hd (zfL (high.map (· - (hiS (z0w t hs)+hiS (z0x t hs)))) (z0u t hs));have HRM:=Hd (fun (pgs left:List (List PgS))=>zej (rm:=high.map (· - (hiS (z0w t hs)+hiS (z0x t hs)))) (pgs:=pgs) (left:=left));have hKF1:=zb5 bb w5.heap.size W.heap.size none 0 0 (.slice ah high.length ch) (.slice ap (z0u t hs).length cp) high (hiS (z0w t hs)+hiS (z0x t hs)) [] [] (z0u t hs) rfl (by omega) (by have:=HPL.out;omega) hi1 hi2 HHB.out hbs (by have:=(HLL.out 0).1;simpa using this) (by have:=(HLL.out 0).2;simpa using this) w5 (Nat.le_refl _) HBX5.out HV.out ⟨rfl,.inl ⟨rfl,rfl⟩⟩ (zB.nil _ _) HPC.out;obtain ⟨j0,hj0,e0,_⟩:=z6R (z0f (high.map (· - (hiS (z0w t hs)+hiS (z0x t hs)))) 0) (z0u t hs) [];rw [e0] at hKF1 HRS;generalize (z0X (z0f (high.map (· - (hiS (z0w t hs)+hiS (z0x t hs)))) 0) [] (z0u t hs)).1=pg0 at hKF1 HRS;have KF1:=Hd hKF1;have HHI:Hid (0 < high.length∧high.length≤60):=Hd ⟨hi1,hi2⟩;clear hKF1 e0;go_wp2_with fail
   refine KF1.out.mono ?_;rintro e w6 ⟨vl,us,a,c,rfl,hL,hB6,hO6,hR6,hK6⟩;have H6:Hid (PJ9 bb w5.heap.size W.heap.size w5 (.slice ah high.length ch) (hiS (z0w t hs)+hiS (z0x t hs)) (high.map (· - (hiS (z0w t hs)+hiS (z0x t hs)))) (z0u t hs) vl w6):=Hd ⟨j0,[pg0],us,a,c,hL,hB6,hO6,hR6,hK6,HRS.out,by simp,hj0⟩;clear hL hB6 hO6 hR6 hK6 KF1 HRS HBX5;obtain ⟨pcs,hpcs⟩:∃ pcs,z0u t hs=pcs:=⟨_,rfl⟩;rw [hpcs] at H6 HPL HPC HLL HF;clear hpcs;generalize hiS (z0w t hs)+hiS (z0x t hs)=bes at H6 HRM HF hbs HLL ⊢;go_wp2_with fail
   go_loopw [9] (fun v W'=>Hid (PJ9 bb w5.heap.size W.heap.size w5 (.slice ah high.length ch) bes (high.map (· - bes)) pcs v W')) (fun v _=>zhQ v)
   case atStart=>exact H6
   case round =>
    clear H6;obtain ⟨j,pgs,us2,a2,c2,hL,hB,hO,hR,hK,hE,hn,hj⟩:=Hid.out hrel;obtain ⟨al,cl,rfl,hll⟩:=At.form (hL wr (BF.of_below (Below.refl _ _) hK.size));have hld:(pcs.drop j).length=pcs.length - j:=List.length_drop;rw [hld] at hL ⊢;by_cases hz:j=pcs.length
    case pos =>
     have hz2:pcs.length - j=0:=(by omega);rw [hz2] at hL ⊢;have hd:pcs.drop j=[]:=(by rw [hz,List.drop_length]);rw [hd,zfM] at hE;have HE:=Hd (HF.out.trans hE);have HO:=Hd (z7E hO (by omega:w.heap.size≤w5.heap.size));have HR:=Hd (hR.base (by omega:w.heap.size≤w5.heap.size));have HK:=Hd (HB5.out.trans (HCV.out _ hK));have HUl:=Hd (hR.1);have g0:wr.cell? ⟨bb,0,none⟩=some (.slice a2 pgs.length c2):=zf hB;clear hL hB hO hR hK hE hn hj hll hld hrel hz hz2 hd;go_wp2;go_ret;exact ⟨_,us2,rfl,by rw [HUl.out];exact HO.out,by rw [HE.out];exact HR.out,HK.out⟩
    have hne:pcs.drop j ≠ []:=fun e=>by rw [e,List.length_nil] at hld;omega
    have hpos:(0:Int) < ((pcs.length - j:Nat):Int):=(by omega);have hE2:=hE.trans (HRM.out pgs (pcs.drop j) hne);have hpl:=HPL.out;have hKF:=zb5 bb w5.heap.size W.heap.size a2 pgs.length c2 (.slice ah high.length ch) (.slice al (pcs.length - j) cl) high bes us2 pgs (pcs.drop j) rfl (by omega) (by omega) HHI.out.1 HHI.out.2 HHB.out hbs (HLL.out j).1 (HLL.out j).2 wr hK.size hB (fun W' k=>HV.out W' (hK.trans k)) hO hR hL
    obtain ⟨q,ql,eq⟩:∃ q ql,pcs.drop j=q :: ql:=by
     cases hx:pcs.drop j with
     | nil=>exact absurd hx hne
     | cons q ql=>exact ⟨q,ql,rfl⟩
    obtain ⟨j2,hj2,hj3,e2⟩:=zek (room:=z0f (high.map (· - bes)) pgs.length) (p:=q) (ps:=ql);rw [← eq] at e2 hj3;rw [hld] at hj3;rw [List.drop_drop] at e2;rw [e2] at hKF hE2;generalize (z0X (z0f (high.map (· - bes)) pgs.length) [] (pcs.drop j)).1=pg1 at hKF hE2;have KF:=Hd hKF;have HE:=Hd hE2;have HKr:=Hd hK;have hn2:pgs.length≤10000:=(by omega);clear hL hB hO hR hK hE hE2 hKF e2 eq hll hld hrel hne;go_wp2_with fail
    refine KF.out.mono ?_;rintro e w7 ⟨vl2,us3,a3,c3,rfl,hL3,hB3,hO3,hR3,hK3⟩;have H7:Hid (PJ9 bb w5.heap.size W.heap.size w5 (.slice ah high.length ch) bes (high.map (· - bes)) pcs vl2 w7):=Hd ⟨j+j2,pgs ++ [pg1],us3,a3,c3,hL3,by rw [List.length_append];exact hB3,by rw [List.length_append];exact hO3,hR3,HKr.out.trans hK3,HE.out,by rw [List.length_append];simp;omega,by omega⟩;obtain ⟨al3,cl3,e3,_⟩:=At.form (hL3 w7 (BF.of_below (Below.refl _ _) (Nat.le_trans HKr.out.size hK3.size)));rw [List.length_drop] at e3;subst e3;clear hL3 hB3 hO3 hR3 hK3 KF;go_wp2;go_roundw
    case rel=>exact H7
    case measure=>simp [zhQ];omega
  case hs =>
   intro L act W i o hJ hcl ho hLi haft K hK;obtain ⟨v8,v18,v19,v20,v21,v22,v23,v24,v25,v26,v27,v28,v29,ha,J⟩:=hJ;subst ha
   have hi':i < 13:=by
    have:=(bL ho)
    simpa using this
   rcases (by omega:i=0∨i=1∨i=2∨i=3∨i=4∨i=5∨i=6∨i=7∨i=8∨i=9∨i=10∨i=11∨i=12) with rfl | rfl | rfl | rfl | rfl | rfl | rfl | rfl | rfl | rfl | rfl | rfl | rfl
   all_goals
    simp only [List.getElem?_toArray,List.getElem?_cons_zero,List.getElem?_cons_succ,Option.some.injEq] at ho;subst ho;clear hi'
   ·have hN:=(Qh hcl 12 11 (Qh hcl 11 10 (Qh hcl 10 0 hLi)));have hB:=J.b hN;go_simp;exact hK _ _ ⟨_,_,_,_,_,_,_,_,_,_,_,_,_,rfl,⟨(fun _=>rfl),uq J.f1,uq J.f2,(fun h=>(J.f3 (un h))),uq J.f4,uq J.f5,uq J.f6,(fun h=>(J.f7 (un h))),uq J.f8,uq J.f9,(fun h=>absurd (((Qh hcl 10 0 hLi)).symm.trans (un h)) (by simp)),(fun h=>absurd (((Qh hcl 11 10 (Qh hcl 10 0 hLi))).symm.trans (un h)) (by simp)),(fun h=>absurd (((Qh hcl 12 11 (Qh hcl 11 10 (Qh hcl 10 0 hLi)))).symm.trans (un h)) (by simp)),(fun _=>hB)⟩⟩
   ·have hN:=(Qh hcl 12 11 (Qh hcl 11 10 (Qh hcl 10 9 (Qh hcl 9 4 (Qh hcl 4 3 (Qh hcl 3 1 hLi))))));have hB:=J.b hN;obtain ⟨b0,b1,b2,b3,b4⟩:=z0l (HP3.out.kept hB).box;go_simp;exact hK _ _ ⟨_,_,_,_,_,_,_,_,_,_,_,_,_,rfl,⟨uq J.f0,(fun _=>rfl),uq J.f2,(fun h=>absurd (((Qh hcl 3 1 hLi)).symm.trans (un h)) (by simp)),(fun h=>absurd (((Qh hcl 4 3 (Qh hcl 3 1 hLi))).symm.trans (un h)) (by simp)),uq J.f5,uq J.f6,(fun h=>(J.f7 (un h))),uq J.f8,(fun h=>absurd (((Qh hcl 9 4 (Qh hcl 4 3 (Qh hcl 3 1 hLi)))).symm.trans (un h)) (by simp)),(fun h=>absurd (((Qh hcl 10 9 (Qh hcl 9 4 (Qh hcl 4 3 (Qh hcl 3 1 hLi))))).symm.trans (un h)) (by simp)),(fun h=>absurd (((Qh hcl 11 10 (Qh hcl 10 9 (Qh hcl 9 4 (Qh hcl 4 3 (Qh hcl 3 1 hLi)))))).symm.trans (un h)) (by simp)),(fun h=>absurd (((Qh hcl 12 11 (Qh hcl 11 10 (Qh hcl 10 9 (Qh hcl 9 4 (Qh hcl 4 3 (Qh hcl 3 1 hLi))))))).symm.trans (un h)) (by simp)),(fun _=>hB)⟩⟩
   ·have hN:=(Qh hcl 12 11 (Qh hcl 11 10 (Qh hcl 10 9 (Qh hcl 9 4 (Qh hcl 4 3 (Qh hcl 3 2 hLi))))));have hB:=J.b hN;go_simp;exact hK _ _ ⟨_,_,_,_,_,_,_,_,_,_,_,_,_,rfl,⟨uq J.f0,uq J.f1,(fun _=>rfl),(fun h=>absurd (((Qh hcl 3 2 hLi)).symm.trans (un h)) (by simp)),(fun h=>absurd (((Qh hcl 4 3 (Qh hcl 3 2 hLi))).symm.trans (un h)) (by simp)),uq J.f5,uq J.f6,(fun h=>(J.f7 (un h))),uq J.f8,(fun h=>absurd (((Qh hcl 9 4 (Qh hcl 4 3 (Qh hcl 3 2 hLi)))).symm.trans (un h)) (by simp)),(fun h=>absurd (((Qh hcl 10 9 (Qh hcl 9 4 (Qh hcl 4 3 (Qh hcl 3 2 hLi))))).symm.trans (un h)) (by simp)),(fun h=>absurd (((Qh hcl 11 10 (Qh hcl 10 9 (Qh hcl 9 4 (Qh hcl 4 3 (Qh hcl 3 2 hLi)))))).symm.trans (un h)) (by simp)),(fun h=>absurd (((Qh hcl 12 11 (Qh hcl 11 10 (Qh hcl 10 9 (Qh hcl 9 4 (Qh hcl 4 3 (Qh hcl 3 2 hLi))))))).symm.trans (un h)) (by simp)),(fun _=>hB)⟩⟩
   ·have hN:=(Qh hcl 12 11 (Qh hcl 11 10 (Qh hcl 10 9 (Qh hcl 9 4 (Qh hcl 4 3 hLi)))));have hB:=J.b hN;obtain rfl:=J.f1 (Fa haft 1);obtain rfl:=J.f2 (Fa haft 2);have hw:=(HP3.out.kept hB).hts;have hsz:=hB.size;go_simp;go_wp2_with (go_at_call 38;refine (KH.out _ _ hw).mono ?_;rintro e W2 ⟨u,rfl,hU,hb⟩)
    exact ⟨_,_,_,_,_,_,_,_,_,_,_,_,_,rfl,⟨uq J.f0,uq J.f1,uq J.f2,(fun _=>hU.base hsz),(fun h=>absurd (((Qh hcl 4 3 hLi)).symm.trans (un h)) (by simp)),uq J.f5,uq J.f6,(fun h=>((J.f7 (un h))).kept hb),uq J.f8,(fun h=>absurd (((Qh hcl 9 4 (Qh hcl 4 3 hLi))).symm.trans (un h)) (by simp)),(fun h=>absurd (((Qh hcl 10 9 (Qh hcl 9 4 (Qh hcl 4 3 hLi)))).symm.trans (un h)) (by simp)),(fun h=>absurd (((Qh hcl 11 10 (Qh hcl 10 9 (Qh hcl 9 4 (Qh hcl 4 3 hLi))))).symm.trans (un h)) (by simp)),(fun h=>absurd (((Qh hcl 12 11 (Qh hcl 11 10 (Qh hcl 10 9 (Qh hcl 9 4 (Qh hcl 4 3 hLi)))))).symm.trans (un h)) (by simp)),(fun _=>zh hB hb)⟩⟩
   ·have hN:=(Qh hcl 12 11 (Qh hcl 11 10 (Qh hcl 10 9 (Qh hcl 9 4 hLi))));have hB:=J.b hN;have hU:=J.f3 (Fa haft 3);go_simp;go_wp2_with (go_at_call 37;refine (KA.out _ _ _ hU.at).mono ?_;rintro e W2 ⟨rfl,hb⟩)
    exact ⟨_,_,_,_,_,_,_,_,_,_,_,_,_,rfl,⟨uq J.f0,uq J.f1,uq J.f2,(fun h=>((J.f3 (un h))).kept hb),(fun _=>rfl),uq J.f5,uq J.f6,(fun h=>((J.f7 (un h))).kept hb),uq J.f8,(fun h=>absurd (((Qh hcl 9 4 hLi)).symm.trans (un h)) (by simp)),(fun h=>absurd (((Qh hcl 10 9 (Qh hcl 9 4 hLi))).symm.trans (un h)) (by simp)),(fun h=>absurd (((Qh hcl 11 10 (Qh hcl 10 9 (Qh hcl 9 4 hLi)))).symm.trans (un h)) (by simp)),(fun h=>absurd (((Qh hcl 12 11 (Qh hcl 11 10 (Qh hcl 10 9 (Qh hcl 9 4 hLi))))).symm.trans (un h)) (by simp)),(fun _=>zh hB hb)⟩⟩
   ·have hN:=(Qh hcl 12 11 (Qh hcl 11 10 (Qh hcl 10 9 (Qh hcl 9 8 (Qh hcl 8 7 (Qh hcl 7 5 hLi))))));have hB:=J.b hN;obtain ⟨b0,b1,b2,b3,b4⟩:=z0l (HP3.out.kept hB).box;go_simp;exact hK _ _ ⟨_,_,_,_,_,_,_,_,_,_,_,_,_,rfl,⟨uq J.f0,uq J.f1,uq J.f2,(fun h=>(J.f3 (un h))),uq J.f4,(fun _=>rfl),uq J.f6,(fun h=>absurd (((Qh hcl 7 5 hLi)).symm.trans (un h)) (by simp)),(fun h=>absurd (((Qh hcl 8 7 (Qh hcl 7 5 hLi))).symm.trans (un h)) (by simp)),(fun h=>absurd (((Qh hcl 9 8 (Qh hcl 8 7 (Qh hcl 7 5 hLi)))).symm.trans (un h)) (by simp)),(fun h=>absurd (((Qh hcl 10 9 (Qh hcl 9 8 (Qh hcl 8 7 (Qh hcl 7 5 hLi))))).symm.trans (un h)) (by simp)),(fun h=>absurd (((Qh hcl 11 10 (Qh hcl 10 9 (Qh hcl 9 8 (Qh hcl 8 7 (Qh hcl 7 5 hLi)))))).symm.trans (un h)) (by simp)),(fun h=>absurd (((Qh hcl 12 11 (Qh hcl 11 10 (Qh hcl 10 9 (Qh hcl 9 8 (Qh hcl 8 7 (Qh hcl 7 5 hLi))))))).symm.trans (un h)) (by simp)),(fun _=>hB)⟩⟩
   ·have hN:=(Qh hcl 12 11 (Qh hcl 11 10 (Qh hcl 10 9 (Qh hcl 9 8 (Qh hcl 8 7 (Qh hcl 7 6 hLi))))));have hB:=J.b hN;go_simp;exact hK _ _ ⟨_,_,_,_,_,_,_,_,_,_,_,_,_,rfl,⟨uq J.f0,uq J.f1,uq J.f2,(fun h=>(J.f3 (un h))),uq J.f4,uq J.f5,(fun _=>rfl),(fun h=>absurd (((Qh hcl 7 6 hLi)).symm.trans (un h)) (by simp)),(fun h=>absurd (((Qh hcl 8 7 (Qh hcl 7 6 hLi))).symm.trans (un h)) (by simp)),(fun h=>absurd (((Qh hcl 9 8 (Qh hcl 8 7 (Qh hcl 7 6 hLi)))).symm.trans (un h)) (by simp)),(fun h=>absurd (((Qh hcl 10 9 (Qh hcl 9 8 (Qh hcl 8 7 (Qh hcl 7 6 hLi))))).symm.trans (un h)) (by simp)),(fun h=>absurd (((Qh hcl 11 10 (Qh hcl 10 9 (Qh hcl 9 8 (Qh hcl 8 7 (Qh hcl 7 6 hLi)))))).symm.trans (un h)) (by simp)),(fun h=>absurd (((Qh hcl 12 11 (Qh hcl 11 10 (Qh hcl 10 9 (Qh hcl 9 8 (Qh hcl 8 7 (Qh hcl 7 6 hLi))))))).symm.trans (un h)) (by simp)),(fun _=>hB)⟩⟩
   ·have hN:=(Qh hcl 12 11 (Qh hcl 11 10 (Qh hcl 10 9 (Qh hcl 9 8 (Qh hcl 8 7 hLi)))));have hB:=J.b hN;obtain rfl:=J.f5 (Fa haft 5);obtain rfl:=J.f6 (Fa haft 6);have hw:=(HP3.out.kept hB).hts;have hsz:=hB.size;go_simp;go_wp2_with (go_at_call 39;refine (KF.out _ _ hw).mono ?_;rintro e W2 ⟨u,rfl,hU,hb⟩)
    exact ⟨_,_,_,_,_,_,_,_,_,_,_,_,_,rfl,⟨uq J.f0,uq J.f1,uq J.f2,(fun h=>((J.f3 (un h))).kept hb),uq J.f4,uq J.f5,uq J.f6,(fun _=>hU.base hsz),(fun h=>absurd (((Qh hcl 8 7 hLi)).symm.trans (un h)) (by simp)),(fun h=>absurd (((Qh hcl 9 8 (Qh hcl 8 7 hLi))).symm.trans (un h)) (by simp)),(fun h=>absurd (((Qh hcl 10 9 (Qh hcl 9 8 (Qh hcl 8 7 hLi)))).symm.trans (un h)) (by simp)),(fun h=>absurd (((Qh hcl 11 10 (Qh hcl 10 9 (Qh hcl 9 8 (Qh hcl 8 7 hLi))))).symm.trans (un h)) (by simp)),(fun h=>absurd (((Qh hcl 12 11 (Qh hcl 11 10 (Qh hcl 10 9 (Qh hcl 9 8 (Qh hcl 8 7 hLi)))))).symm.trans (un h)) (by simp)),(fun _=>zh hB hb)⟩⟩
   ·have hN:=(Qh hcl 12 11 (Qh hcl 11 10 (Qh hcl 10 9 (Qh hcl 9 8 hLi))));have hB:=J.b hN;have hU:=J.f7 (Fa haft 7);go_simp;go_wp2_with (go_at_call 37;refine (KB.out _ _ _ hU.at).mono ?_;rintro e W2 ⟨rfl,hb⟩)
    exact ⟨_,_,_,_,_,_,_,_,_,_,_,_,_,rfl,⟨uq J.f0,uq J.f1,uq J.f2,(fun h=>((J.f3 (un h))).kept hb),uq J.f4,uq J.f5,uq J.f6,(fun h=>((J.f7 (un h))).kept hb),(fun _=>rfl),(fun h=>absurd (((Qh hcl 9 8 hLi)).symm.trans (un h)) (by simp)),(fun h=>absurd (((Qh hcl 10 9 (Qh hcl 9 8 hLi))).symm.trans (un h)) (by simp)),(fun h=>absurd (((Qh hcl 11 10 (Qh hcl 10 9 (Qh hcl 9 8 hLi)))).symm.trans (un h)) (by simp)),(fun h=>absurd (((Qh hcl 12 11 (Qh hcl 11 10 (Qh hcl 10 9 (Qh hcl 9 8 hLi))))).symm.trans (un h)) (by simp)),(fun _=>zh hB hb)⟩⟩
   ·have hN:=(Qh hcl 12 11 (Qh hcl 11 10 (Qh hcl 10 9 hLi)));have hB:=J.b hN;obtain rfl:=J.f4 (Fa haft 4);obtain rfl:=J.f8 (Fa haft 8);go_simp;exact hK _ _ ⟨_,_,_,_,_,_,_,_,_,_,_,_,_,rfl,⟨uq J.f0,uq J.f1,uq J.f2,(fun h=>(J.f3 (un h))),uq J.f4,uq J.f5,uq J.f6,(fun h=>(J.f7 (un h))),uq J.f8,(fun _=>rfl),(fun h=>absurd (((Qh hcl 10 9 hLi)).symm.trans (un h)) (by simp)),(fun h=>absurd (((Qh hcl 11 10 (Qh hcl 10 9 hLi))).symm.trans (un h)) (by simp)),(fun h=>absurd (((Qh hcl 12 11 (Qh hcl 11 10 (Qh hcl 10 9 hLi)))).symm.trans (un h)) (by simp)),(fun _=>hB)⟩⟩
   ·have hN:=(Qh hcl 12 11 (Qh hcl 11 10 hLi));have hB:=J.b hN;obtain rfl:=J.f0 (Fa haft 0);obtain rfl:=J.f9 (Fa haft 9);go_simp;exact hK _ _ ⟨_,_,_,_,_,_,_,_,_,_,_,_,_,rfl,⟨uq J.f0,uq J.f1,uq J.f2,(fun h=>(J.f3 (un h))),uq J.f4,uq J.f5,uq J.f6,(fun h=>(J.f7 (un h))),uq J.f8,uq J.f9,(fun _=>rfl),(fun h=>absurd (((Qh hcl 11 10 hLi)).symm.trans (un h)) (by simp)),(fun h=>absurd (((Qh hcl 12 11 (Qh hcl 11 10 hLi))).symm.trans (un h)) (by simp)),(fun _=>hB)⟩⟩
   ·have hN:=(Qh hcl 12 11 hLi);have hB:=J.b hN;obtain rfl:=J.f10 (Fa haft 10);have hsz:=hB.size;go_simp;exact hK _ _ ⟨_,_,_,_,_,_,_,_,_,_,_,_,_,rfl,⟨uq J.f0,uq J.f1,uq J.f2,(fun h=>((J.f3 (un h))).kept (ze (Below.refl _ _) _)),uq J.f4,uq J.f5,uq J.f6,(fun h=>((J.f7 (un h))).kept (ze (Below.refl _ _) _)),uq J.f8,uq J.f9,uq J.f10,(fun _=>⟨_,rfl,hsz,zl _ _⟩),(fun h=>absurd (((Qh hcl 12 11 hLi)).symm.trans (un h)) (by simp)),(fun _=>ze hB _)⟩⟩
   ·have hN:=hLi;have hB:=J.b hN;obtain ⟨g,rfl,hg,hx⟩:=J.f11 (Fa haft 11);go_simp;exact hK _ _ ⟨_,_,_,_,_,_,_,_,_,_,_,_,_,rfl,⟨uq J.f0,uq J.f1,uq J.f2,(fun h=>(J.f3 (un h))),uq J.f4,uq J.f5,uq J.f6,(fun h=>(J.f7 (un h))),uq J.f8,uq J.f9,uq J.f10,uq J.f11,(fun _=>⟨g,rfl,hg,hx,hB⟩),(fun h=>absurd (h.symm.trans zD) (by simp))⟩⟩
theorem z5N {hs:List Int}:∀ {l:List PgS} {p:Pos},z0k hs p l→p.row≤(z0h hs p l).row∧(l ≠ []→(z0h hs p l).seen=true)∧∀ s ∈ l,p.row≤s.r∧s.r≤(z0h hs p l).row
 | [],p,_=>⟨Int.le_refl _,fun h=>absurd rfl h,fun s hs=>by cases hs⟩
 | x :: l,p,h=>by
  obtain ⟨h1,h2⟩:=h
  have ha:p.row≤(z1k hs p x.r).row:=by
   unfold z1k
   split
   ·simp only;omega
   ·exact Int.le_refl _
  obtain ⟨i1,i2,i3⟩:=z5N h2;have e:z0h hs p (x :: l)=z0h hs (z1D hs p x) l:=rfl;have hr:x.r=(z1D hs p x).row:=h1.1;have hn:(z1D hs p x).row=(z1k hs p x.r).row:=rfl;rw [e];refine ⟨by omega,fun _=>?_,fun s hs'=>?_⟩
  ·cases l with
   | nil=>rfl
   | cons y l=>exact i2 (by simp)
  ·rcases List.mem_cons.1 hs' with rfl | hm
   ·omega
   ·have:=i3 s hm;omega
structure zau (t:T) (hs:List Int) (pss:List (List PgS)) (E:Nat):Prop where
 tl:(t.rows.length:Int) - t.foot=E
 hd:0≤t.head∧t.head≤E
 le:E≤t.rows.length
 run:z0k hs ⟨t.head,0,false⟩ pss.flatten
 ready:z3m hs (z0h hs ⟨t.head,0,false⟩ pss.flatten) E
 rows:∀ s ∈ pss.flatten,t.head≤s.r∧s.r < E
theorem zeX {t:T} (hD:zY t) {width:Int} {high:List Int} (hp:z4d t width high=true):∃ E:Nat,zau t (zA t width) (z19 t width high) E:=by
 have hok2:=hp;unfold z4d at hok2;rw [Bool.and_eq_true,Bool.and_eq_true] at hok2;obtain ⟨⟨hok,_⟩,_⟩:=hok2;have hb:=z9g (t:=t) (x:=width);have hbn:∀ x ∈ zA t width,0≤x:=fun x hx=>(hb x hx).1;obtain ⟨H,E,hH,hE,hHE,hER,_,_⟩:=z8d hok;have hbd:z19 t width high=z3v (high.map (· - (hiS (z0w t (zA t width))+hiS (z0x t (zA t width))))) (z0u t (zA t width)):=(by unfold z19;rw [if_pos hp]);obtain ⟨r1,r2⟩:=z7D hD hok hbn hH hE hHE hER;have hG:=z7t hD hok hb (high.map (· - (hiS (z0w t (zA t width))+hiS (z0x t (zA t width)))));rw [z6L] at hbd;have hfl:(z59 (high.map (· - (hiS (z0w t (zA t width))+hiS (z0x t (zA t width))))) (z0u t (zA t width))).flatten=z0u t (zA t width):=hG.flat;have hgr:=z8g (hs:=zA t width) (gs:=z59 (high.map (· - (hiS (z0w t (zA t width))+hiS (z0x t (zA t width))))) (z0u t (zA t width))) (p:=⟨t.head,0,false⟩) (by rw [hfl];exact r1);rw [hfl,← hbd] at hgr;obtain ⟨g1,g2⟩:=hgr;rw [← g2] at r2;refine ⟨E,hE,by omega,hER,g1,r2,fun s hs'=>?_⟩;obtain ⟨_,b2,b3⟩:=z5N g1;have hb3:=b3 s hs';have hsn:=b2 (List.ne_nil_of_mem hs')
 rcases r2 with h | ⟨h0,h⟩
 ·rw [h] at hsn
  cases hsn
 ·rw [h] at hb3;simp only at hb3;omega
theorem zhR {l:List PgS} {k:Nat} (h:k < l.length):l.getD k dP=l[k]:=by simp [List.getD,h]
def ziD (hs:List Int) (p:Pos) (pss:List (List PgS)) (i k:Nat):Pos:=z0h hs p ((pss.take i).flatten ++ (pss.getD i []).take k)
structure SP (w:World) (tb:Nat) (ac ar:Option Addr) (cc cr:Nat) (t:T) (vh:Value) (high:List Int) (W:World):Prop where
 st:St w tb ac ar cc cr t W
 hi:zH W vh high
theorem SP.kept {w W W':World} {tb:Nat} {ac ar:Option Addr} {cc cr:Nat} {t:T} {vh:Value} {high:List Int} (h:SP w tb ac ar cc cr t vh high W) (k:Below W.heap.size W W'):SP w tb ac ar cc cr t vh high W':=⟨h.st.kept k,h.hi.kept k⟩
theorem zeY {t:T} {width:Int} {high:List Int} (h:z4d t width high=false):z19 t width high=[]:=by unfold z19;rw [if_neg (by rw [h];simp)]
def ziE (hs:List Int) (E:Nat) (p:Pos) (s:PgS):Prop :=
 (∃ n:Nat,p.row=n∧n < E∧s.r=n∧s.f=p.line∧¬ s.t < s.f∧¬ hs.getD n 0 < s.t∧(s.f=s.t→¬ 0 < hs.getD n 0)∧z1D hs p s=⟨n,s.t,true⟩)
 ∨ (∃ n m:Nat,p.row=n∧(n:Int)+1=m∧n < E∧m < E∧p.seen=true∧p.line=hs.getD n 0∧s.r=m∧s.f=0∧¬ s.t < s.f∧¬ hs.getD m 0 < s.t∧(s.f=s.t→¬ 0 < hs.getD m 0)∧z1D hs p s=⟨m,s.t,true⟩)
def zdu (hs:List Int) (a:Nat):Nat→Int
 | 0=>0
 | k+1=>zdu hs a k+hs.getD (a+k) 0+1
def zbG (t:T) (hs:List Int) (r:Nat):Nat:=if z0m t (r:Int)=1 then (hs.getD r 0).toNat+1 else 0
def z2P (t:T) (hs:List Int):Nat→Nat
 | 0=>0
 | r+1=>z2P t hs r+zbG t hs r
theorem zdv {t:T} {hs:List Int} {a b:Nat} (h:a≤b):z2P t hs a≤z2P t hs b:=by
 induction h with
 | refl=>exact Nat.le_refl _
 | step _ ih=>exact Nat.le_trans ih (by rw [z2P];omega)
theorem zeZ {t:T} {hs:List Int} {a b:Nat} (hab:a < b):(z2c t hs a b).length+z2P t hs a≤z2P t hs b:=by
 have h1:z2P t hs (a+1)≤z2P t hs b:=zdv hab;rw [z2P] at h1
 have h2:(z2c t hs a b).length≤zbG t hs a:=by
  unfold z2c zbG
  split
  ·split
   ·simp [z0y]
   ·simp
  ·simp
 omega
theorem za7 {t:T} {hs:List Int} {gs:List GC} {R:Nat}:∀ k,k < (zQ gs R).length→(z0D t hs (zQ gs R) k).length≤z2P t hs ((zQ gs R).getD k 0)
 | 0,_=>Nat.zero_le _
 | k+1,hk=>by
  have ih:=za7 (t:=t) (hs:=hs) (gs:=gs) (R:=R) k (by omega);have:=zeZ (t:=t) (hs:=hs) (z4p hk).1;rw [z0D,List.length_append];omega
theorem zgg {t:T} {hs:List Int}:(z0u t hs).length≤z2P t hs t.rows.length:=by
 have:=za7 (t:=t) (hs:=hs) (gs:=(gOf t).cells) (R:=t.rows.length) (zU (gOf t).cells t.rows.length).length (by rw [z55];omega);rw [z6J] at this;exact this
theorem za8 {t:T} {hs:List Int} (hok:zr t=true) {H E:Nat} (hH:t.head=H) (hE:(t.rows.length:Int) - t.foot=E) (hHE:H≤E) (hb:∀ r,0≤hs.getD r 0):∀ r,r≤t.rows.length→(z2P t hs r:Int)≤zdu hs H (min r E - H)
 | 0,_=>by
  rw [show min 0 E - H=0 by omega];exact Int.le_refl _
 | r+1,hr=>by
  have ih:=za8 hok hH hE hHE hb r (by omega);by_cases h1:H≤r∧r < E
  ·have h3:=hb r;rw [z2P,zbG,if_pos ((z6K hok hH hE (by omega)).2 h1),show min (r+1) E - H=(min r E - H)+1 by omega,zdu,show H+(min r E - H)=r by omega];omega
  ·rw [z2P,zbG,if_neg (fun h=>h1 ((z6K hok hH hE (by omega)).1 h)),show min (r+1) E - H=min r E - H by omega];omega
theorem zbH {α:Type}:∀ {l:List (List α)},(∀ g ∈ l,g ≠ [])→l.length≤l.flatten.length
 | [],_=>Nat.le_refl _
 | g :: l,h=>by
  have h1:=zbH (l:=l) (fun x hx=>h x (by simp [hx]));have h2:0 < g.length:=List.length_pos_iff.2 (h g (by simp));rw [List.flatten_cons,List.length_append,List.length_cons];omega
theorem zf0 {t:T} (hD:zY t) {width:Int} {high:List Int} (hp:z4d t width high=true):∃ H E:Nat,t.head=H∧(t.rows.length:Int) - t.foot=E∧H≤E∧E≤t.rows.length∧t.rows.length≤8∧(zA t width).length=t.rows.length∧(∀ r,0≤(zA t width).getD r 0∧(zA t width).getD r 0≤1000)∧0 < (z19 t width high).length∧(1 < (z19 t width high).length→∀ i,i < (z19 t width high).length→0 < ((z19 t width high).getD i []).length)∧((z19 t width high).length:Int)≤zdu (zA t width) H (E - H)+1:=by
 have hok2:=hp;unfold z4d at hok2;rw [Bool.and_eq_true,Bool.and_eq_true] at hok2;obtain ⟨⟨hok,hw⟩,_⟩:=hok2;have hb:=z9g (t:=t) (x:=width)
 have hbg:∀ r,0≤(zA t width).getD r 0∧(zA t width).getD r 0≤1000:=fun r=>by
  by_cases h:r < (zA t width).length
  ·rw [show (zA t width).getD r 0=(zA t width)[r] by simp [List.getD,h]];exact hb _ (List.getElem_mem h)
  ·rw [show (zA t width).getD r 0=0 by simp [List.getD,h]];omega
 obtain ⟨H,E,hH,hE,hHE,hER,_,_⟩:=z8d hok;have hbd:z19 t width high=z3v (high.map (· - (hiS (z0w t (zA t width))+hiS (z0x t (zA t width))))) (z0u t (zA t width)):=(by unfold z19;rw [if_pos hp]);have hG:=z7t hD hok hb (high.map (· - (hiS (z0w t (zA t width))+hiS (z0x t (zA t width)))))
 have hrl:(zA t width).length=t.rows.length:=by
  rw [zA,hok,hw];exact z0R _ _
 have h1:=zgg (t:=t) (hs:=zA t width);have h2:=za8 (hs:=zA t width) hok hH hE hHE (fun r=>(hbg r).1) t.rows.length (Nat.le_refl _);rw [show min t.rows.length E - H=E - H by omega] at h2;rw [z6L] at hbd;unfold z59 at hbd;generalize (z0u t (zA t width)).foldl (z2M (high.map (· - (hiS (z0w t (zA t width))+hiS (z0x t (zA t width)))))) ([],[])=st at hbd hG;have hlen:(z19 t width high).length=st.1.length+1:=(by rw [hbd];simp);refine ⟨H,E,hH,hE,hHE,hER,zgt hD hok,hrl,hbg,by omega,fun h1l i hi=>?_,?_⟩
 ·by_cases hn:z0u t (zA t width)=[]
  ·rw [hG.only hn] at hlen;simp at hlen;omega
  ·have hi2:i < (st.1 ++ [st.2]).length:=(by rw [hbd] at hi;simpa using hi);have hm:(st.1 ++ [st.2])[i] ∈ st.1 ++ [st.2]:=List.getElem_mem hi2
   have e:(z19 t width high).getD i []=z0Z (st.1 ++ [st.2])[i]:=by
    rw [hbd,List.getD_eq_getElem?_getD,List.getElem?_map,List.getElem?_eq_getElem hi2];rfl
   rw [e];refine List.length_pos_iff.2 fun h=>?_;refine hG.ne hn _ hm ((z8f fun p hp=>?_).1 h);refine zcz (t:=t) (hs:=zA t width) p ?_;rw [← hG.flat];exact List.mem_flatten.2 ⟨_,hm,hp⟩
 ·by_cases hn:z0u t (zA t width)=[]
  ·rw [hG.only hn] at hlen;simp at hlen;omega
  ·have:=zbH (hG.ne hn);rw [hG.flat,List.length_append,List.length_singleton] at this;omega
theorem z9h (hs:List Int) (p:Pos) (r:Int):p.row≤(z1k hs p r).row∧(z1k hs p r).row≤p.row+1:=by
 unfold z1k
 split
 ·simp only;omega
 ·omega
theorem z7R {hs:List Int}:∀ {l:List PgS} {p:Pos},z0k hs p l→∀ n:Int,p.row < n→n≤(z0h hs p l).row→∃ s ∈ l,s.r=n
 | [],p,_,n,h1,h2=>by
  have e:z0h hs p []=p:=rfl;rw [e] at h2;omega
 | x :: l,p,h,n,h1,h2=>by
  have ha:=z9h hs p x.r;have hr:x.r=(z1k hs p x.r).row:=h.1.1;by_cases hn:x.r=n
  ·exact ⟨x,by simp,hn⟩
  ·obtain ⟨s,hs',e⟩:=z7R (p:=z1D hs p x) h.2 n (by show (z1k hs p x.r).row < n;omega) h2;exact ⟨s,by simp [hs'],e⟩
theorem za9 {hs:List Int} {l:List PgS} {p:Pos} (h:z0k hs p l) (hp:p.seen=false) (hl:l ≠ []):∃ s ∈ l,s.r=p.row:=by
 cases l with
 | nil=>exact absurd rfl hl
 | cons x l =>
  refine ⟨x,by simp,?_⟩;have hr:x.r=(z1k hs p x.r).row:=h.1.1;rw [hr];unfold z1k;rw [if_neg (by rw [hp];simp)]
theorem zgh {hs:List Int} {a b:List PgS} {s:PgS} {p:Pos} (h:z0k hs p (a ++ s :: b)) (hp:p.seen=false) {r:Int} (hr:s.r=r) (hpr:p.row < r):∃ x ∈ a,x.r=r - 1:=by
 rw [z0W] at h;obtain ⟨h1,h2⟩:=h;have hs1:s.r=(z1k hs (z0h hs p a) s.r).row:=h2.1.1;have ha:=z9h hs (z0h hs p a) s.r;by_cases hn:a=[]
 ·subst hn;have e:z0h hs p []=p:=rfl;rw [e] at hs1;unfold z1k at hs1;rw [if_neg (by rw [hp];simp)] at hs1;omega
 ·by_cases h3:p.row < r - 1
  ·exact z7R h1 (r - 1) h3 (by omega)
  ·obtain ⟨x,hx,e⟩:=za9 h1 hp hn;exact ⟨x,hx,by omega⟩
def z3h (row:Int):List PgS→Int
 | []=>0
 | s :: l=>(if s.r=row then s.t - s.f else 0)+z3h row l
theorem z7S (row:Int):∀ (a b:List PgS),z3h row (a ++ b)=z3h row a+z3h row b
 | [],b=>by simp [z3h]
 | s :: a,b=>by
  rw [List.cons_append,z3h,z3h,z7S row a b];omega
theorem zbI (row:Int) (ps:List PgS):∀ k,k≤ps.length→rwP ps row k=z3h row (ps.take k)
 | 0,_=>by simp [rwP,z3h]
 | k+1,hk=>by
  have hk':k < ps.length:=(by omega);rw [rwP,zbI row ps k (by omega),List.take_succ_eq_append_getElem hk',z7S,zhR hk'];simp only [z3h]
  split <;> omega
theorem zaa (row:Int) (pss:List (List PgS)):∀ k,k≤pss.length→zax pss row k=z3h row (pss.take k).flatten
 | 0,_=>by simp [zax,z3h]
 | k+1,hk=>by
  have hk':k < pss.length:=(by omega);have e:pss.getD k []=pss[k]:=(by simp [List.getD,hk']);rw [zax,zaa row pss k (by omega),List.take_succ_eq_append_getElem hk',List.flatten_append,z7S,zbI row _ _ (Nat.le_refl _),List.take_length,e];simp
def z5m (hs:List Int) (p:Pos) (r:Nat):Int:=if (r:Int) < p.row then hs.getD r 0 else if (r:Int)=p.row then p.line else 0
theorem zhn {hs:List Int} {p:Pos} (r:Nat) (x:Int):z5m hs (z1k hs p x) r=z5m hs p r:=by
 unfold z1k
 split
 ·rename_i h
  obtain ⟨h1,h2,h3⟩:=h;unfold z5m;simp only;by_cases c1:(r:Int) < p.row
  ·rw [if_pos (by omega),if_pos c1]
  ·by_cases c2:(r:Int)=p.row
   ·rw [if_pos (by omega),if_neg c1,if_pos c2,h3,← c2,Int.toNat_natCast]
   ·rw [if_neg c1,if_neg c2,if_neg (by omega)]
    split <;> rfl
 ·rfl
theorem zcO {hs:List Int}:∀ {l:List PgS} {p:Pos},z0k hs p l→0≤p.row→∀ r:Nat,z3h r l=z5m hs (z0h hs p l) r - z5m hs p r
 | [],p,_,_,r=>by
  have e:z0h hs p []=p:=rfl;rw [e,z3h];omega
 | x :: l,p,h,hp,r=>by
  have ha:=z9h hs p x.r;have h0:0≤(z1D hs p x).row:=(by show 0≤(z1k hs p x.r).row;omega);have ih:=zcO (p:=z1D hs p x) h.2 h0 r;have e:z0h hs p (x :: l)=z0h hs (z1D hs p x) l:=rfl;obtain ⟨o1,o2,_⟩:=h.1;have hg:=zhn (hs:=hs) (p:=p) r x.r
  have hg2:z5m hs (z1D hs p x) r=z5m hs p r+(if x.r=r then x.t - x.f else 0):=by
   rw [← hg];unfold z5m z1D;simp only;generalize z1k hs p x.r=q at o1 o2;by_cases c1:(r:Int) < q.row
   ·rw [if_pos c1,if_pos c1,if_neg (by omega)];omega
   ·by_cases c2:(r:Int)=q.row
    ·rw [if_neg c1,if_pos c2,if_neg c1,if_pos c2,if_pos (by omega)];omega
    ·rw [if_neg c1,if_neg c2,if_neg c1,if_neg c2,if_neg (by omega)];omega
  rw [e,z3h,ih,hg2];omega
theorem z72 {t:T} {hs:List Int} {pss:List (List PgS)} {E:Nat} (h:zau t hs pss E) {r:Nat} (h1:t.head≤r) (h2:r < E):z3h r pss.flatten=hs.getD r 0∧∃ s ∈ pss.flatten,s.r=(r:Int):=by
 have hh:=h.hd;have hS:=zcO h.run (p:=⟨t.head,0,false⟩) hh.1 r
 have hg0:z5m hs ⟨t.head,0,false⟩ r=0:=by
  unfold z5m;simp only;rw [if_neg (by omega)]
  split <;> rfl
 rw [hg0] at hS
 rcases h.ready with hr | ⟨hE1,hr⟩
 ·exfalso
  by_cases hn:pss.flatten=[]
  ·rw [hn] at hr;have e:z0h hs ⟨t.head,0,false⟩ []=⟨t.head,0,false⟩:=rfl;rw [e] at hr;simp only [Pos.mk.injEq,and_true] at hr;omega
  ·have:=(z5N h.run).2.1 hn;rw [hr] at this
   cases this
 ·constructor
  ·rw [hS,hr];unfold z5m;simp only;by_cases c:(r:Int) < (E:Int) - 1
   ·rw [if_pos c];omega
   ·rw [if_neg c,if_pos (by omega),show E - 1=r by omega];omega
  ·by_cases c:t.head < r
   ·exact z7R h.run r c (by rw [hr];simp only;omega)
   ·obtain ⟨s,hs',e⟩:=za9 h.run rfl (fun hn=>by
     rw [hn] at hr;have e:z0h hs ⟨t.head,0,false⟩ []=⟨t.head,0,false⟩:=rfl;rw [e] at hr;simp at hr)
    exact ⟨s,hs',by rw [e];simp only;omega⟩
theorem zf1 {t:T} {hs:List Int} {pss:List (List PgS)} {E:Nat} (h:zau t hs pss E) (hb:∀ r,0≤hs.getD r 0∧hs.getD r 0≤1000) {r:Nat} (h1:t.head≤r) (h2:r < E):zfc pss r=hs.getD r 0:=by
 have h3:=hb r;rw [zfc,zaa _ _ _ (Nat.le_refl _),List.take_length,(z72 h h1 h2).1];exact z3u (by omega)
theorem zab {pss:List (List PgS)} {row:Int} {s:PgS} (h:s ∈ pss.flatten) (hr:s.r=row):0≤z15 pss row:=by
 obtain ⟨g,hg,hs'⟩:=List.mem_flatten.1 h;unfold z15
 cases e:pss.findIdx? (z1a row) with
 | some k=>simp
 | none =>
  rw [List.findIdx?_eq_none_iff] at e;have:=e g hg;rw [z1a,List.any_eq_false] at this;exact absurd (by simpa using hr) (this s hs')
theorem zcf {t:T} {hs:List Int} {pss:List (List PgS)} {E:Nat} (h:zau t hs pss E) {r:Nat} (h1:t.head < r) (h2:r < E):z15 pss ((r:Int) - 1)≤z15 pss r:=by
 obtain ⟨s0,hs0,hr0⟩:=(z72 h (Int.le_of_lt h1) h2).2;have hge:=zab hs0 hr0;unfold z15 at hge ⊢
 cases e:pss.findIdx? (z1a (r:Int)) with
 | none=>rw [e] at hge;simp at hge
 | some k =>
  rw [List.findIdx?_eq_some_iff_getElem] at e;obtain ⟨hk,hp,_⟩:=e;rw [z1a,List.any_eq_true] at hp;obtain ⟨s,hs',hsr⟩:=hp;have hsr:s.r=(r:Int):=(by simpa using hsr);obtain ⟨A,B,hAB⟩:=List.append_of_mem hs'
  have hfl:pss.flatten=((pss.take k).flatten ++ A) ++ s :: (B ++ (pss.drop (k+1)).flatten):=by
   have e1:pss=pss.take k ++ (pss[k] :: pss.drop (k+1)):=(by rw [← List.drop_eq_getElem_cons hk,List.take_append_drop])
   conv=>lhs;rw [e1,List.flatten_append,List.flatten_cons,hAB]
   simp [List.append_assoc]
  have hrun:=h.run;rw [hfl] at hrun;obtain ⟨x,hx,hxr⟩:=zgh hrun rfl hsr h1
  have hi:∃ i,i≤k∧∃ (hi:i < pss.length),x ∈ pss[i]:=by
   rcases List.mem_append.1 hx with hx | hx
   ·obtain ⟨g,hg,hxg⟩:=List.mem_flatten.1 hx;obtain ⟨i,hi,rfl⟩:=List.mem_iff_getElem.1 hg;rw [List.length_take] at hi;refine ⟨i,by omega,by omega,?_⟩;rw [List.getElem_take] at hxg;exact hxg
   ·exact ⟨k,Nat.le_refl _,hk,by rw [hAB];simp [hx]⟩
  obtain ⟨i,hik,hil,hxi⟩:=hi
  have hpi:z1a ((r:Int) - 1) pss[i]=true:=by
   rw [z1a,List.any_eq_true];exact ⟨x,hxi,by simpa using hxr⟩
  cases e2:pss.findIdx? (z1a ((r:Int) - 1)) with
  | none=>simp only;omega
  | some j =>
   rw [List.findIdx?_eq_some_iff_getElem] at e2;obtain ⟨hj,_,hno⟩:=e2;simp only;by_cases c:j≤i
   ·omega
   ·exact absurd hpi (hno i (by omega))
theorem zf2 {t:T} (hD:zY t) {width:Int} {high:List Int} (hp:z4d t width high=true):∃ H E:Nat,t.head=H∧(t.rows.length:Int) - t.foot=E∧H≤E∧E≤t.rows.length∧t.rows.length≤8∧(zA t width).length=t.rows.length∧0 < (z19 t width high).length∧(∀ q:Nat,H≤q→q < E→zfc (z19 t width high) q=(zA t width).getD q 0∧0≤z15 (z19 t width high) q)∧∀ q:Nat,H < q→q < E→z15 (z19 t width high) ((q:Int) - 1)≤z15 (z19 t width high) q:=by
 obtain ⟨H,E,h1,h2,h3,h4,h5,h6,h7,h8,_,_⟩:=zf0 hD hp;obtain ⟨E',hB⟩:=zeX hD hp;obtain rfl:E'=E:=by have:=hB.tl;omega
 refine ⟨H,E',h1,h2,h3,h4,h5,h6,h8,fun q hq1 hq2=>⟨zf1 hB h7 (by omega) hq2,?_⟩,fun q hq1 hq2=>zcf hB (by omega) hq2⟩;obtain ⟨s,hs,e⟩:=(z72 hB (show t.head≤(q:Int) by omega) hq2).2;exact zab hs e
end
section
open Go.RowKit Go.BigFrame
theorem zci (A B:Option Addr) (len cap len2 cap2:Nat) (hlen:len≤1048576) (hlen2:len2≤1048576) (w:World) (h:z1J w A len cap) (h2:z1J w B len2 cap2) :
  Calls Tryz.prog 3 #[.slice A len cap,.slice B len2 cap2] w fun e w'=>e=.returned (.bool true)∧Below w.heap.size w w':=by
 have hl:¬ (1048576:Int) < (len:Int):=(by omega);have hl2:¬ (1048576:Int) < (len2:Int):=(by omega);have hmx:Tryz.prog.follows .mixedOrders=true:=(by kernel_rfl);have HD:=Hd h;have HD2:=Hd h2;clear h h2;go_enter Tryz.func3,Tryz.ntmps3;go_wp2_with fail
 refine (z7T _ _ _ _ HD.out).mono ?_;rintro e w1 ⟨v0,ls,row,rfl,hsm,hP1,hb1⟩;obtain ⟨a0,c0,rfl,hl0⟩:=At.form hP1;unfold maxLen at hl0;have HQ:=Hd hP1;have HB1:=Hd hb1;clear hsm hP1 hb1 HD;go_wp2_with fail
 refine (z5o _ ls row _ HQ.out).mono ?_;rintro e w2 ⟨rfl,hb2⟩;replace HQ:=Hd (HQ.out.kept hb2);replace HB1:=Hd (zh HB1.out hb2);clear hb2;have HFk:=Hd (fun (i:Nat) (hi:i < ls.length)=>zcg (row:=row) hi);have KS:=Hd (fun W (h:z0H W w.heap.size (.slice a0 ls.length c0) ls)=>zbM _ ls row W h);generalize z15 ls row=kf at HFk KS ⊢;have hkk:(kf != kf)=false:=(by simp);go_wp2_with fail
 refine (KS.out _ HQ.out).mono ?_;rintro e W3 ⟨rfl,hb2⟩;replace HQ:=Hd (HQ.out.kept hb2);replace HB1:=Hd (zh HB1.out hb2);clear hb2 KS;go_wp2_with fail
 go_loopw [8] (fun i W=>∃ q:Nat,i=.int .i64 (q:Int)∧q≤ls.length∧Hid (Below W3.heap.size W3 W)) (fun i _=>ls.length - (intOf i).toNat)
 case atStart=>exact ⟨0,rfl,Nat.zero_le _,Below.refl _ _⟩
 case round =>
  obtain ⟨q,rfl,hq,HB⟩:=hrel;by_cases hlt:q < ls.length
  case pos =>
   obtain ⟨b1,off1,cap1',u1,e1,hc11,hc12,hbl1,x0,hs1⟩:=(HQ.out.kept HB.out).get hlt;simp only [Value.slice.injEq,true_and] at e1;obtain ⟨rfl,rfl⟩:=e1;unfold maxLen at hc12;obtain ⟨hk1,hk2⟩:=HFk.out q hlt;have HK1:=Hd hk1;have HK2:=Hd hk2;clear hk1 hk2;generalize ls.getD q []=pg at hs1 HK1 HK2;obtain ⟨au,cu,rfl,hlu⟩:=At.form hs1;unfold maxLen at hlu;have HS1:=Hd hs1;have X0:=Hd x0;obtain ⟨W5,hW5⟩:∃ W5,W5=wr:=⟨_,rfl⟩;subst hW5;have hb0:=z8R row pg;clear hs1 x0 HFk HD2;go_wp2_with fail
   go_loopw [9,10] (fun b n W=>∃ m:Nat,n=.int .i64 (m:Int)∧m≤pg.length∧b=.bool (z4S row pg m)∧Hid (Below W5.heap.size W5 W)) (fun _ n _=>pg.length - (intOf n).toNat)
   case atStart=>exact ⟨0,rfl,Nat.zero_le _,by rw [z8R],Below.refl _ _⟩
   case round =>
    obtain ⟨m,rfl,hm,rfl,HBq⟩:=hrel;have c1:=(HBq.out.cell (p:=⟨b1,off1+q,none⟩) hbl1).trans X0.out;clear hb0;by_cases hml:m < pg.length
    case pos =>
     obtain ⟨d1,o1,cd1,f1,hd11,hd12,hdl1,p0,p1,p2⟩:=At.get (HS1.out.kept HBq.out) hml;simp only [Value.slice.injEq,true_and] at f1;obtain ⟨rfl,rfl⟩:=f1;unfold maxLen at hd12;have HNx:=Hd (zdw (row:=row) hml);generalize pg.getD m dP=s at p0 p1 p2 HNx;obtain ⟨sr,sf,st⟩:=s;simp only at p0 p1 p2
     cases hb:z4S row pg m with
     | true =>
      rw [hb] at HNx;clear hb;go_wp2;go_roundw
      case rel=>exact ⟨m+1,by go_num,by omega,by rw [HNx.out];rfl,HBq⟩
      case measure=>simp [intOf];omega
     | false =>
      rw [hb] at HNx;clear hb
      cases he:(sr == row)
      all_goals
       have HE:=Hd he;go_wp2;go_roundw
       case rel=>exact ⟨m+1,by go_num,by omega,by rw [HNx.out];simp only [HE.out];rfl,HBq⟩
       case measure=>simp [intOf];omega
    case neg =>
     obtain rfl:m=pg.length:=by omega
     have HB8:=Hd (zh HB.out HBq.out);rw [zf3]
     cases hhp:z1a row pg with
     | true =>
      obtain ⟨k1,k2⟩:=HK1.out hhp;clear HK1 HK2 hhp
      cases he:(kf == (q:Int))
      all_goals
       go_wp2;go_roundw
       case rel=>exact ⟨q+1,by go_num,by omega,HB8⟩
       case measure=>simp [intOf];omega
     | false =>
      have k1:=HK2.out hhp;have k2:(kf == (q:Int))=false:=beq_eq_false_iff_ne.2 k1;clear HK1 HK2 hhp k1;go_wp2;go_roundw
      case rel=>exact ⟨q+1,by go_num,by omega,HB8⟩
      case measure=>simp [intOf];omega
  case neg =>
   obtain rfl:q=ls.length:=by omega
   replace HB1:=Hd (zh HB1.out HB.out);clear HB HFk HQ;go_wp2_with fail
   refine (z8T _ _ _ _ (HD2.out.keptP HB1.out)).mono ?_;rintro e w2 ⟨ac,ar,cc,cr,t,x,vh,high,rfl,hD,hxb,hsmH,hC1,hW1,hH1,hb2⟩;obtain ⟨ah,ch,rfl,_⟩:=At.form hH1;have hz2:=HB1.out.size;have KA1:=ze (Below.refl w2.heap.size w2) (.cells #[.slice ac t.cols.length cc,.int .i64 t.head,.int .i64 t.foot,.slice ar t.rows.length cr,.int .i64 t.gap] 33);have HS:Hid (SP w w2.heap.size ac ar cc cr t (.slice ah high.length ch) high (w2.alloc (.cells #[.slice ac t.cols.length cc,.int .i64 t.head,.int .i64 t.foot,.slice ar t.rows.length cr,.int .i64 t.gap] 33))):=⟨⟨ze (zh HB1.out hb2) _,TA.kept ⟨hC1.base hz2,hW1.base hz2⟩ KA1,zl _ _⟩,hH1.ints.kept KA1⟩;have HPi:=Hd (fun W (h:SP w w2.heap.size ac ar cc cr t (.slice ah high.length ch) high W)=>zce ac ar cc cr t hD x (.slice ah high.length ch) high W h.st.2.1.1 h.st.2.1.2 h.hi);have HF:=Hd (fun hp=>zf2 hD (width:=x) (high:=high) hp);have HNo:=Hd (fun hp=>zeY (t:=t) (width:=x) (high:=high) hp);generalize z19 t x high=pss at HPi HF HNo;generalize zA t x=rs at HF;generalize z4d t x high=ok at HF HNo;clear hC1 hW1 hH1 hb2 hD hxb hsmH KA1 HB1 HD2 hz2;go_upto_region 18 with fail
   generalize w2.alloc (.cells #[.slice ac t.cols.length cc,.int .i64 t.head,.int .i64 t.foot,.slice ar t.rows.length cr,.int .i64 t.gap] 33)=W1 at HS ⊢;generalize w2.heap.size=tb at HS HPi ⊢;obtain ⟨z0,z1,z2,z3,z4⟩:=HS.out.st.at;go_wp2_with fail
   refine (HPi.out _ HS.out).mono ?_;rintro e w9 ⟨v3,us,rfl,hO3,hR3,hb3⟩;have hP3:=hR3.pss hO3 (Nat.le_refl _) (Nat.le_refl _);obtain ⟨ap,cp,rfl,hlp⟩:=At.form hP3;unfold maxLen at hlp;have HPV:=Hd hP3;replace HS:=Hd (HS.out.kept hb3);clear hO3 hR3 hP3 hb3 z0 z1 z2 z3 z4 HPi;obtain ⟨z0,z1,z2,z3,z4⟩:=HS.out.st.at
   cases ok with
   | false =>
    obtain rfl:=HNo.out rfl;clear HNo HF;generalize hwr:IntKind.i64.wrap (t.head+1)=HH;have HWR:=Hd hwr;go_wp2_with fail
    go_loopw [15] (fun r W=>r=.int .i64 HH∧Hid (Below w9.heap.size w9 W)) (fun _ _=>0)
    case atStart=>exact ⟨by first | rfl | simp [HWR.out],Below.refl _ _⟩
    case round =>
     clear z0 z1 z2 z3 z4;obtain ⟨rfl,HB⟩:=hrel;replace HS:=Hd (HS.out.kept HB.out);obtain ⟨z0,z1,z2,z3,z4⟩:=HS.out.st.at;generalize hEE:IntKind.i64.wrap ((t.rows.length:Int) - t.foot)=EE;by_cases hlt3:HH < EE
     all_goals
      go_wp2_with fail
      refine (zbK _).mono ?_;rintro e wa ⟨rfl,rfl⟩;go_wp2;go_ret;exact ⟨rfl,HS.out.st.1⟩
   | true =>
    obtain ⟨H,E,fH,fE,hHE,hER,hR8,hrl,hp0,_,hpr⟩:=HF.out rfl;have HR:=Hd hpr;have hp1:(0:Int) < (pss.length:Int):=(by omega);obtain ⟨H1,hH1⟩:∃ H1:Nat,H1=H+1:=⟨_,rfl⟩;have hwh:IntKind.i64.wrap (t.head+1)=(H1:Int):=(by rw [IntKind.wrap_i64];omega);clear HNo HF hpr;go_wp2_with fail
    go_loopw [15] (fun r W=>∃ q:Nat,r=.int .i64 (q:Int)∧H1≤q∧q≤9∧Hid (Below w9.heap.size w9 W)) (fun r _=>9 - (intOf r).toNat)
    case atStart=>exact ⟨H1,by first | rfl | rw [hwh] | (congr 1;omega),Nat.le_refl _,by omega,Below.refl _ _⟩
    case round =>
     clear z0 z1 z2 z3 z4;obtain ⟨q,rfl,hHq,hq9,HB⟩:=hrel;have hwE:IntKind.i64.wrap ((t.rows.length:Int) - t.foot)=(E:Int):=(by rw [IntKind.wrap_i64];omega);have HSq:=Hd (HS.out.kept HB.out);obtain ⟨z0,z1,z2,z3,z4⟩:=HSq.out.st.at;by_cases hlt3:q < E
     case pos =>
      have hy:=HR.out q (by omega) hlt3;have hlt':(q:Int) < (E:Int):=(by omega);have hwq:IntKind.i64.wrap ((q:Int) - 1)=(q:Int) - 1:=(by rw [IntKind.wrap_i64];omega);have HPr:=Hd (HPV.out.kept HB.out);have HY:=Hd hy;clear HPV HR hy;go_wp2_with fail
      refine (z5o _ pss (q:Int) _ HPr.out).mono ?_;rintro e W6 ⟨rfl,hb6⟩;replace HPr:=Hd (HPr.out.kept hb6);replace HB:=Hd (zh HB.out hb6);clear hb6 z0 z1 z2 z3 z4;generalize z15 pss (q:Int)=y1 at HY ⊢;go_wp2_with fail
      refine (z5o _ pss ((q:Int) - 1) _ HPr.out).mono ?_;rintro e W7 ⟨rfl,hb7⟩;replace HB:=Hd (zh HB.out hb7);clear hb7;generalize z15 pss ((q:Int) - 1)=y2 at HY ⊢;have hyf:¬ y1 < y2:=(by have:=HY.out;omega);go_wp2;go_roundw
      case rel=>exact ⟨q+1,by go_num,by omega,by omega,HB⟩
      case measure=>simp [intOf];omega
     case neg =>
      have hlt':¬ (q:Int) < (E:Int):=(by omega);go_wp2_with fail
      refine (zbK _).mono ?_;rintro e wa ⟨rfl,rfl⟩;go_wp2;go_ret;exact ⟨rfl,HSq.out.st.1⟩
theorem zcj (a:Option Addr) (len cap:Nat) (b:Option Addr) (len2 cap2:Nat) (w:World) (h:z1J w a len cap) (h2:z1J w b len2 cap2) :
  Calls Tryz.prog 3 #[.slice a len cap,.slice b len2 cap2] w fun e w'=>e=.returned (.bool true)∧Below w.heap.size w w':=by
 by_cases hl:len≤1048576
 ·by_cases hl2:len2≤1048576
  ·exact zci a b len cap len2 cap2 hl hl2 w h h2
  ·have hl':¬ (1048576:Int) < (len:Int):=(by omega);have hl2':(1048576:Int) < (len2:Int):=(by omega);clear h h2;go_enter Tryz.func3,Tryz.ntmps3;go_wp2;go_ret;exact ⟨rfl,Below.refl _ _⟩
 ·have hl':(1048576:Int) < (len:Int):=(by omega);clear h h2;go_enter Tryz.func3,Tryz.ntmps3;go_wp2;go_ret;exact ⟨rfl,Below.refl _ _⟩
end
end Go.Proofs.YtggmjiddadjilaiGreat
