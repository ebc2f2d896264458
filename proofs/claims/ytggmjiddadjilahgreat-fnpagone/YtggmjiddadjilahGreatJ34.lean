/-
  PROVED HERE: the program's toWishes: others get what they wish, as far as that is there; nothing else that was in memory is turned. Also: 7 more texts of the same proof.
-/
import Derived.Test.YtggmjiddadjilahGreatJ33
import Derived.Test.YtggmjiddadjilahGreatJ22
set_option maxRecDepth 1000000
set_option maxHeartbeats 40000000
open Go.Proofs.Tryz
namespace Go.Proofs.YtggmjiddadjilahGreat
open Value (int)
open IntKind (i64)
section
open Go.RowKit Go.BigFrame
theorem ziO {t:T} {L:List Int} {i:Nat} (hi:i < (z12 t L).length) (hP:zo t 0 i=false):(z12 t L).getD i 0=0:=by
 rw [z4Y (by rw [z2L] at hi;exact hi),if_neg (by rw [hP];simp)]
theorem zdr (w0:World) (sb:Nat) (ac ar:Option Addr) (cc cr:Nat) (t:T) (width:Int) (g cap C D:Nat) (left:Int) (L:List Int) (hDr:z0g t) {z:Nat} (hc:z09 w0 z (.slice ac t.cols.length cc) t.cols) (hr:z05 w0 z (.slice ar t.rows.length cr) t.rows) (hge:∀ j,j < C->zo t 0 j=true->L.getD j 0<=(z24 t).getD j 0) (hC:C<=88) (hCt:C=zG t) (hLC:L.length=C) (hLs:L.all wtB=true) (hg0:w0.heap.size<=g) (hgD:g < D) (hDs:D<=sb) (hok:zI left (z12 t L)=true) (w:World) (h:SpS w0 sb ac ar cc cr t width g cap C D left L w) :
  Calls prog 125 #[.pointer (some ⟨sb,0,none⟩)] w λe w'=>e=.returned (.tuple #[])/\SpS w0 sb ac ar cc cr t width g cap C D (z2l left (z12 t L)) (z1o L (z0F left (z12 t L))) w'/\Bk2 g sb w w':=by
 have hmx:prog.follows .mixedOrders=true:=(by kernel_rfl);obtain ⟨ok1,len1,all1,sum1,give1⟩:=zaj (P:=zo t 0) (z2L t L) hok (λi hi hP=>ziO hi hP);rw [hLC] at ok1 len1 all1 sum1 give1;have HTl:=O (z2i (z12 t L) (zo t 0) C);have HTg:=O (λk (hk:k < (zn (zo t 0) C).length)=>z45 (l:=z12 t L) hk);have HW:=O (λj (hj:j < C) (hP:zo t 0 j=true)=>(z4Y (t:=t) (l:=L) (k:=j) (by omega)).trans (if_pos hP));have HGe:=O hge;have HWu:=O (z7E hDr);have HWl:Hid ((z24 t).length=C):=(by rw [Hid,z5P,hCt]);have KWi:=O (ze8 ac ar cc cr t hDr w (hc.kept h.bel) (hr.kept h.bel));have HLt:=O (λk (hk:k < (zn (zo t 0) C).length)=>z8R hk);have hnl:=z4m (zo t 0) C;have HC:=O hc;have H:=O h;have KO:=O (λW (h:SpS w0 sb ac ar cc cr t width g cap C D left L W)=>z7J sb ac ar cc cr t width g cap C left 0 hC W h.sp (hc.kept h.bel));have hmk:=z5I (zn (zo t 0) C).length (by omega);have HG1:=O give1;have HSum:=O sum1;have HA1:=O all1;have HLn:=O len1;have hleft:=(z0d hok).1;have HOk:=O ok1;generalize zn (zo t 0) C=js at *;generalize hT:z0k (z12 t L) (zo t 0) C=T at *;clear h hc hr hge give1 sum1 all1 len1 ok1 hok hT;have hTl:=HTl.out;have s0:w.cell? ⟨sb,0,none⟩=some (.slice ac t.cols.length cc):=zf (p:=0) H.out.sp;have s1:w.cell? ⟨sb,1,none⟩=some (int i64 t.head):=zf (p:=1) H.out.sp;have s2:w.cell? ⟨sb,2,none⟩=some (int i64 t.foot):=zf (p:=2) H.out.sp;have s3:w.cell? ⟨sb,3,none⟩=some (.slice ar t.rows.length cr):=zf (p:=3) H.out.sp;have s4:w.cell? ⟨sb,4,none⟩=some (int i64 t.gap):=zf (p:=4) H.out.sp;go_enter func125,ntmps125;go_wp2_with fail
 refine KWi.out.mono ?_;rintro e wa ⟨va,rfl,hra,hba⟩;obtain ⟨aw,cw,rfl⟩:=hra.form;rw [HWl.out] at hra |-;have HRa:=O hra;have Ha:=O (H.out.kept hba);have HBa:=O hba;have hza:=hba.size;clear hra hba KWi s0 s1 s2 s3 s4;go_wp2_with fail
 refine (KO.out _ Ha.out).mono ?_;rintro e w1 ⟨v1,rfl,hr1,hb1⟩;obtain ⟨a1,c1,rfl⟩:=hr1.form;rw [z2j] at hr1 |-;have HRb:=O (HRa.out.kept (λj h0 _ _=>hb1.block j h0));have HR1:=O hr1;have HS1:=O (Ha.out.kept hb1);have HB1:=O (zi HBa.out hb1);have hz1:=hb1.size;clear hr1 hb1 KO HRa Ha HBa;have hn2:(w1.alloc (.cells (z1l js.length) 3)).heap.size=w1.heap.size+1:=(by simp);have HN:=O (z4n w1 js.length (by omega));have hA2:=ze (Below.refl w1.heap.size w1) (.cells (z1l js.length) 3);go_upto_region 3 with fail
 have HRc:=O (HRb.out.kept (w':=w1.alloc (.cells (z1l js.length) 3)) (λj h0 _ _=>hA2.block j h0));have hwa:wa.heap.size<=w1.heap.size:=hz1;have HS2:=O (HS1.out.kept hA2);have HR2:=O (HR1.out.kept (w':=w1.alloc (.cells (z1l js.length) 3)) (λj h0 _ _=>hA2.block j h0));have HB2:=O (zi HB1.out hA2);have hD2:D<=w1.heap.size:=(by have:=HS1.out.sp.lt;omega);have hsb1:sb < w1.heap.size:=HS1.out.sp.lt;have hsbw:sb < w.heap.size:=H.out.sp.lt;have hw0:w0.heap.size<=w1.heap.size:=HS1.out.bel.size;clear HS1 HR1 HB1 hA2 H HRb;generalize w1.alloc (.cells (z1l js.length) 3)=W2 at HN HS2 HR2 HB2 HRc hn2 |-;generalize w1.heap.size=gb at HN HR2 hn2 hD2 hsb1 hz1 hw0 hwa |-;go_wp2_with fail
 go_loopw [21] (λs W=>∃ k:Nat,s=int i64 k/\k<=js.length/\Hid (zq W gb (gb+1) (.slice (some ⟨gb,0,none⟩) js.length js.length) (z5b T k))/\Hid (Bk gb W2 W)) (λs _=>js.length - (intOf s).toNat)
 case atStart=>exact ⟨0,rfl,nZ,by rw [zah,hTl];exact HN,Bk.refl _ _⟩
 case round =>
  clear HN;obtain ⟨k,rfl,hk,HF,HB⟩:=hrel;have HS:=O (HS2.out.bk HB.out hw0 (by omega) hD2);have HR:=O (HR2.out.kept (λj h0 _ h2=>HB.out.block j h0 (by omega)));by_cases hlt:k < js.length
  case pos =>
   obtain ⟨b1,c1',e1,hb1B,_,hb1w,hc11,hc12,hx1,_⟩:=HR.out.get (i:=k) (by rw [z2j];exact hlt);rw [z2j] at e1 hc11;rw [z9w hlt] at hx1;simp only [Value.slice.injEq,true_and] at e1;obtain ⟨rfl,rfl⟩:=e1;obtain ⟨hjC,hjP⟩:=HLt.out k hlt;have hTk:=HTg.out k hlt;have hjj:js[k]=js.getD k 0:=(by simp [List.getD,hlt]);rw [hjj] at hTk;rw [HW.out _ hjC hjP] at hTk;have hgej:=HGe.out _ hjC hjP;obtain ⟨b2,c2',e2,_,_,hb2w,hc21,hc22,hx2,_⟩:=(HRc.out.kept (λj h0 _ h2=>HB.out.block j h0 (by omega))).get (i:=js.getD k 0) (by rw [HWl.out];exact hjC);rw [HWl.out] at e2 hc21;simp only [Value.slice.injEq,true_and] at e2;obtain ⟨rfl,rfl⟩:=e2;have hws:=HWu.out (js.getD k 0) (by rw [HWl.out];exact hjC);obtain ⟨g',cap',e3,_,_,hgw,hc31,hc32,hx3,_⟩:=HS.out.row.get (i:=js.getD k 0) (by omega);rw [hLC] at e3 hc31;simp only [Value.slice.injEq,Option.some.injEq,Addr.mk.injEq,and_true,true_and] at e3;obtain ⟨rfl,rfl⟩:=e3;have hxs:=z3z hLs (js.getD k 0);generalize js.getD k 0=j at *;generalize L.getD j 0=x at *;generalize (z24 t).getD j 0=y at *;rw [show max 0 (y - x)=y - x by omega] at hTk;unfold maxLen at hc12 hc22 hc32;have HFx:=O (zai (l:=T) (k:=k) (by omega));rw [hTk] at HFx;have hne:=z0H wr;have m0:=zm (a:=⟨sb,6,none⟩) HS.out.sp.lt (zf (p:=6) HS.out.sp);have m1:=zm (a:=⟨g,j,none⟩) hgw hx3;have m2:=zm (a:=⟨b2,j,none⟩) hb2w hx2;clear hx2 hx3 hTk hjP;go_upto_region 6 with fail
   clear hx1;refine z1g 15 hmx (by rfl) (by rfl) (by kernel_rfl) (by kernel_rfl) ?_;simp only [List.take_succ_cons,List.take_zero];repeat (go_big_quiet_step (fail))
   refine wpQuiet_nil ?_;intro W5 hw';obtain ⟨⟨Wx,hW5⟩,hw''⟩:=hw';subst hw'';have HF5:=O (HF.out.kept (λi h0 _ _=>hW5.block i h0));have HB5:=O (HB.out.trans (Bk.of_below hW5));obtain ⟨g5,cap5,e5,_,_,hgw5,_,_,hx5,hf5⟩:=HF5.out.get (i:=k) (by rw [z6N T (by omega)];omega);simp only [Value.slice.injEq,Option.some.injEq,Addr.mk.injEq,and_true] at e5;have eg:=e5.1;clear e5;subst eg;have HF6:=O (HF5.out.set (i:=k) (by rw [z6N T (by omega)];omega) (y - x));rw [<-HFx.out] at HF6;clear m0 m1 m2 hne hW5 HF HB HF5 HFx;rw [if_pos (by rfl)];go_simp;go_wp2;go_roundw
   case rel=>exact ⟨k+1,by go_num,by omega,HF6,HB5.out.set (p:=⟨gb,k,none⟩) (.inl rfl) _⟩
   case measure=>simp [intOf];omega
  case neg =>
   obtain rfl:k=js.length:=by omega
   have s7:wr.cell? ⟨sb,7,none⟩=some (int i64 left):=zf (p:=7) HS.out.sp;have HF':Hid (zq wr gb (gb+1) (.slice (some ⟨gb,0,none⟩) js.length js.length) T):=(by rw [<-zbV T,hTl];exact HF);have KU:=O (z7V left _ T HOk.out wr HF'.out.at);go_wp2_with fail
   refine KU.out.mono ?_;rintro e w5 ⟨v5,rfl,hr5,hb5⟩;obtain ⟨a5,c5,rfl⟩:=hr5.form;have hz5:=hb5.size;have hzr:=HB.out.size;have KG:=O (z7K sb ac ar cc cr t width g cap C left L (z0F left T) js (.slice a1 js.length c1) (.slice a5 (z0F left T).length c5) w0.heap.size D w.heap.size hLC (λk hk=>(HLt.out k hk).1) (by omega) HLn.out hLs HA1.out hleft hgD hDs hsbw w5 (HS.out.kept hb5).sp (HS.out.kept hb5).row ((HR.out.kept (λj h0 _ _=>hb5.block j h0)).base (by omega) (by omega)) (hr5.base (by omega) lR));have HB6:=O ((HB2.out.trans (HB.out.below (n:=w.heap.size) (by omega) (by omega))).trans (hb5.mono (by omega)));have HL6:=O ((HS.out.kept hb5).bel);clear KU s7;go_wp2_with fail
   refine KG.out.mono ?_;rintro e w6 ⟨rfl,hs6,hr6,hb6⟩;have HF6:=O (SpS.mk (HL6.out.trans (hb6.below HL6.out.size hg0 (by omega))) hs6 hr6);rw [HSum.out,HG1.out] at HF6;have HK6:=O ((Bk2.of_below HB6.out).trans hb6);clear hs6 hr6 hb6;go_wp2
   go_end0
   exact ⟨rfl,HF6.out,HK6.out⟩
def zau (t:T) (width:Int) (k:Nat) (left:Int) (L:List Int):Prop :=
 (k=0/\L=zB t/\left=z0D t width) \/
 (k=1/\(0 < z0D t width/\L=z13 t width/\left=z1M t width\/left<=0/\L=z08 t width)) \/
 (k=2/\(0 < z0D t width/\L=z1W t width/\left=z1N t width\/left<=0/\L=z08 t width)) \/
 (k=3/\L=z08 t width)
theorem zkS {t:T} {width left:Int} {L:List Int} (h:zau t width 3 left L):L=z08 t width:=by
 rcases h with ⟨h,_⟩ | ⟨h,_⟩ | ⟨h,_⟩ | ⟨_,h⟩
 ·omega
 ·omega
 ·omega
 ·exact h
theorem zjR {t:T} {width left:Int} {L:List Int} {k:Nat} (h:zau t width k left L) (hn:¬ 0 < left) (hk:k < 3) (h0:z0D t width<=0->z08 t width=zB t) (h1:0 < z0D t width->z1M t width<=0->z08 t width=z13 t width) (h2:0 < z0D t width->z1N t width<=0->z08 t width=z1W t width):zau t width (k+1) left L:=by
 rcases h with ⟨rfl,rfl,rfl⟩ | ⟨rfl,h⟩ | ⟨rfl,h⟩ | ⟨h,_⟩
 ·exact .inr (.inl ⟨rfl,.inr ⟨by omega,(h0 (by omega)).symm⟩⟩)
 ·refine .inr (.inr (.inl ⟨rfl,.inr ?_⟩))
  rcases h with ⟨a,rfl,rfl⟩ | ⟨a,b⟩
  ·exact ⟨by omega,(h1 a (by omega)).symm⟩
  ·exact ⟨a,b⟩
 ·refine .inr (.inr (.inr ⟨rfl,?_⟩))
  rcases h with ⟨a,rfl,rfl⟩ | ⟨a,b⟩
  ·exact (h2 a (by omega)).symm
  ·exact b
 ·omega
theorem ziP {t:T} {width left:Int} {L:List Int} {k:Nat} (h:zau t width k left L) (hp:0 < left) (hk:k < 3):0 < z0D t width/\(k=0/\L=zB t/\left=z0D t width\/k=1/\L=z13 t width/\left=z1M t width\/k=2/\L=z1W t width/\left=z1N t width):=by
 rcases h with ⟨rfl,rfl,rfl⟩ | ⟨rfl,h⟩ | ⟨rfl,h⟩ | ⟨h,_⟩
 ·exact ⟨hp,.inl ⟨rfl,rfl,rfl⟩⟩
 ·rcases h with ⟨a,rfl,rfl⟩ | ⟨a,b⟩
  ·exact ⟨a,.inr (.inl ⟨rfl,rfl,rfl⟩)⟩
  ·omega
 ·rcases h with ⟨a,rfl,rfl⟩ | ⟨a,b⟩
  ·exact ⟨a,.inr (.inr ⟨rfl,rfl,rfl⟩)⟩
  ·omega
 ·omega
theorem ze9 (ac ar:Option Addr) (cc cr:Nat) (t:T) (hD:z0g t) (width:Int) (w:World) {z:Nat} (hc:z09 w z (.slice ac t.cols.length cc) t.cols) (hr:z05 w z (.slice ar t.rows.length cr) t.rows) :
  Calls prog 100 #[.agg #[.slice ac t.cols.length cc,int i64 t.head,int i64 t.foot,.slice ar t.rows.length cr,int i64 t.gap],int i64 width] w λe w'=>∃ v,e=.returned v/\zq w' w.heap.size w'.heap.size v (z5S t width)/\Below w.heap.size w w':=by
 have hmx:prog.follows .mixedOrders=true:=(by kernel_rfl);have hmf:∀ (fn:Fn) (first cap:Array Value) (W:World),(Instr.makeFunc fn first cap).run prog W=.ok (.func fn first cap) W:=λ_ _ _ _=>rfl;have HK0:=O (ze (Below.refl w.heap.size w) (.cells #[.slice ac t.cols.length cc,int i64 t.head,int i64 t.foot,.slice ar t.rows.length cr,int i64 t.gap] 26));have HX:=O (zj w (.cells #[.slice ac t.cols.length cc,int i64 t.head,int i64 t.foot,.slice ar t.rows.length cr,int i64 t.gap] 26));have HT:=O (And.intro (hc.kept HK0.out) (hr.kept HK0.out));have HT0:=O (And.intro hc hr);have hs1:(w.alloc (.cells #[.slice ac t.cols.length cc,int i64 t.head,int i64 t.foot,.slice ar t.rows.length cr,int i64 t.gap] 26)).heap.size=w.heap.size+1:=(by simp);clear hc hr;go_enter func100,ntmps100;go_upto_region 1 with fail
 generalize w.alloc (.cells #[.slice ac t.cols.length cc,int i64 t.head,int i64 t.foot,.slice ar t.rows.length cr,int i64 t.gap] 26)=W1 at HK0 HX HT hs1 |-;have b0:W1.cell? ⟨w.heap.size,0,none⟩=some (.slice ac t.cols.length cc):=zf HX.out;have b1:W1.cell? ⟨w.heap.size,1,none⟩=some (int i64 t.head):=zf HX.out;have b2:W1.cell? ⟨w.heap.size,2,none⟩=some (int i64 t.foot):=zf HX.out;have b3:W1.cell? ⟨w.heap.size,3,none⟩=some (.slice ar t.rows.length cr):=zf HX.out;have b4:W1.cell? ⟨w.heap.size,4,none⟩=some (int i64 t.gap):=zf HX.out;have KM:=O (z4D ac ar cc cr t width _ HT.out.1 HT.out.2)
 cases hmay:(zF t && zM width 0 300) with
 | false =>
  have HW:Hid (z5S t width=[]):=(by rw [Hid,z5S,if_neg (by rw [hmay];simp)]);rw [hmay] at KM;clear hmay;go_wp2_with fail
  refine KM.out.mono ?_;rintro e w2 ⟨rfl,hb2⟩;have HK2:=O (zi HK0.out hb2);clear hb2 KM b0 b1 b2 b3 b4;go_wp2;go_ret;exact ⟨_,rfl,by rw [HW.out];exact .inl ⟨rfl,rfl⟩,HK2.out⟩
 | true =>
  have HW:Hid (z5S t width=z08 t width):=(by rw [Hid,z5S,if_pos hmay]);rw [hmay] at KM;rw [Bool.and_eq_true] at hmay;obtain ⟨htk,hin⟩:=hmay;have hw:0<=width/\width<=300:=(by simpa [zM] using hin);obtain ⟨hC1,hC88,hacr,ha0,ha1,hall⟩:=z49 hD htk;have hlen:=z1m t;have HrV:Hid (z0D t width=width - z1P (zB t) t.gap):=(by rw [Hid,hacr];rfl);have HA:=O (λW v (h:zA W v (zB t))=>z5R v (zB t) t.gap W h);generalize z1P (zB t) t.gap=A at HrV HA ha0 ha1 hacr;clear hacr;go_wp2_with fail
  refine KM.out.mono ?_;rintro e w2 ⟨rfl,hb2⟩;have X2:=(hb2.block w.heap.size (by omega)).trans HX.out;have HK2:=O (zi HK0.out hb2);have hz2:w.heap.size+1<=w2.heap.size:=(by have:=hb2.size;omega);clear hb2 KM b0 b1 b2 b3 b4 HX HT;have b0:w2.cell? ⟨w.heap.size,0,none⟩=some (.slice ac t.cols.length cc):=zf X2;have b1:w2.cell? ⟨w.heap.size,1,none⟩=some (int i64 t.head):=zf X2;have b2:w2.cell? ⟨w.heap.size,2,none⟩=some (int i64 t.foot):=zf X2;have b3:w2.cell? ⟨w.heap.size,3,none⟩=some (.slice ar t.rows.length cr):=zf X2;have b4:w2.cell? ⟨w.heap.size,4,none⟩=some (int i64 t.gap):=zf X2;have HX2:=O X2;clear X2;go_wp2_with fail
  refine (z8z ac ar cc cr t hD _ (HT0.out.1.kept HK2.out) (HT0.out.2.kept HK2.out)).mono ?_;rintro e w3 ⟨v3,rfl,hR3,hb3⟩;obtain ⟨g,cap,e3,hgB,hgD,hgw,hc1,hc2,_,_⟩:=hR3.get (i:=0) (by omega);subst e3;have X3:=(hb3.block w.heap.size (by omega)).trans HX2.out;have HK3:=O (zi HK2.out hb3);have HR3:=O hR3;have hz3:=hb3.size;clear hb3 b0 b1 b2 b3 b4 HX2 HK2 hR3;go_upto_region 4 with fail
  rw [hlen] at HR3;have l3:w.heap.size < w3.heap.size:=(by omega);have hne:=z0H w3;have m0:=zm (a:=⟨w.heap.size,0,none⟩) l3 (zf (p:=0) X3);have m1:=zm (a:=⟨w.heap.size,1,none⟩) l3 (zf (p:=1) X3);have m2:=zm (a:=⟨w.heap.size,2,none⟩) l3 (zf (p:=2) X3);have m3:=zm (a:=⟨w.heap.size,3,none⟩) l3 (zf (p:=3) X3);have m4:=zm (a:=⟨w.heap.size,4,none⟩) l3 (zf (p:=4) X3);have KA:=O (λ(p:BW w3)=>z1U (HA.out p.u _ (HR3.out.at.kept p.h)));refine zb6 10 1 hmx (by rfl) (by rfl) (by kernel_rfl) (by kernel_rfl) (by kernel_rfl) ?_;simp only [List.take_succ_cons,List.take_zero];repeat (go_big_quiet_step (first | (go_at_call 123;refine KA.out _)))
  refine wpQuiet_nil ?_;intro W5 hw';obtain ⟨⟨Wx,hW5⟩,hw''⟩:=hw';subst hw'';have X5:=(hW5.block w.heap.size l3).trans X3;have HK5:=O (zi HK3.out hW5);have HR5:=O (HR3.out.kept (λj h0 _ _=>hW5.block j h0));have hz5:=hW5.size;have HS5:=O (zj W5 (.cells #[.slice ac t.cols.length cc,int i64 t.head,int i64 t.foot,.slice ar t.rows.length cr,int i64 t.gap,int i64 width,.slice (some ⟨g,0,none⟩) (zG t) cap,int i64 (width - A)] 153));clear m0 m1 m2 m3 m4 hne hW5 X3 HR3 HK3 KA X5;rw [if_pos (by rfl)];go_simp;refine wpAny_ready (rs:=[11]) (by kernel_rfl) (by simp) ?_;refine AllReady.cons rfl (λK hK=>?_) AllReady.nil;go_simp;refine hK _ _ ?_;clear hK K;refine wpAny_done (by kernel_rfl) ?_ _;have HS6:=O (SpS.mk (w0:=w) (D:=W5.heap.size) (ze HK5.out _) HS5.out ((HR5.out.kept (w':=W5.alloc (.cells #[.slice ac t.cols.length cc,int i64 t.head,int i64 t.foot,.slice ar t.rows.length cr,int i64 t.gap,int i64 width,.slice (some ⟨g,0,none⟩) (zG t) cap,int i64 (width - A)] 153)) (λj h0 _ _=>bA h0)).base (by omega) (by omega)));rw [<-HrV.out] at HS6 |-;have hg0:w.heap.size<=g:=(by omega);have hgD5:g < W5.heap.size:=(by omega);have hs6:(W5.alloc (.cells #[.slice ac t.cols.length cc,int i64 t.head,int i64 t.foot,.slice ar t.rows.length cr,int i64 t.gap,int i64 width,.slice (some ⟨g,0,none⟩) (zG t) cap,int i64 (z0D t width)] 153)).heap.size=W5.heap.size+1:=(by simp);generalize W5.alloc (.cells #[.slice ac t.cols.length cc,int i64 t.head,int i64 t.foot,.slice ar t.rows.length cr,int i64 t.gap,int i64 width,.slice (some ⟨g,0,none⟩) (zG t) cap,int i64 (z0D t width)] 153)=W6 at HS6 hs6 |-;generalize W5.heap.size=sb at HS6 hs6 hgD5 |-;clear HS5 HR5 HK5 hz5;go_upto_region 6 with fail
  have HS7:=O (HS6.out.kept (ze (Below.refl W6.heap.size W6) (.cells #[.func (.func 124) #[.pointer (some ⟨sb,0,none⟩)] #[],.func (.func 125) #[.pointer (some ⟨sb,0,none⟩)] #[],.func (.func 126) #[.pointer (some ⟨sb,0,none⟩)] #[]] 1)));have HF7:=O (zj W6 (.cells #[.func (.func 124) #[.pointer (some ⟨sb,0,none⟩)] #[],.func (.func 125) #[.pointer (some ⟨sb,0,none⟩)] #[],.func (.func 126) #[.pointer (some ⟨sb,0,none⟩)] #[]] 1));rw [hs6] at HF7;generalize W6.alloc (.cells #[.func (.func 124) #[.pointer (some ⟨sb,0,none⟩)] #[],.func (.func 125) #[.pointer (some ⟨sb,0,none⟩)] #[],.func (.func 126) #[.pointer (some ⟨sb,0,none⟩)] #[]] 1)=W7 at HS7 HF7 |-;clear HS6 hs6;have HWno:=O (λh=>zhg (t:=t) (width:=width) h);have HW1:=O (λh=>zjQ hD htk hw hC88 h);have HW2:=O (λh=>zeK hD htk hw hC88 h);have HWr:=O (λh=>z9x (t:=t) (width:=width) h);have HSt:=O (λh=>z47 hD htk hw h);have HSm:=O (λh=>zar hD htk hw h);have HOw:=O (λh (j:Nat) (hj:j < zG t) (hP:zo t 0 j=true)=>zhh hD htk hw h hj hP);go_wp2_with fail
  go_loopw [36] (λs W=>∃ (k:Nat) (left:Int) (L:List Int),s=int i64 k/\k<=3/\Hid (SpS w sb ac ar cc cr t width g cap (zG t) sb left L W)/\Hid (W.heap[sb+1]?=some (.cells #[.func (.func 124) #[.pointer (some ⟨sb,0,none⟩)] #[],.func (.func 125) #[.pointer (some ⟨sb,0,none⟩)] #[],.func (.func 126) #[.pointer (some ⟨sb,0,none⟩)] #[]] 1))/\Hid (zau t width k left L)) (λs _=>3 - (intOf s).toNat)
  case atStart=>exact ⟨0,_,_,rfl,nZ,HS7,HF7,.inl ⟨rfl,rfl,rfl⟩⟩
  case round =>
   obtain ⟨k,left,L,rfl,hk,HS,HF,HC⟩:=hrel;have s7:wr.cell? ⟨sb,7,none⟩=some (int i64 left):=zf (p:=7) HS.out.sp;have s6:wr.cell? ⟨sb,6,none⟩=some (.slice (some ⟨g,0,none⟩) (zG t) cap):=zf (p:=6) HS.out.sp;have f0:wr.cell? ⟨sb+1,0,none⟩=some (.func (.func 124) #[.pointer (some ⟨sb,0,none⟩)] #[]):=zf (p:=0) HF.out;have f1:wr.cell? ⟨sb+1,1,none⟩=some (.func (.func 125) #[.pointer (some ⟨sb,0,none⟩)] #[]):=zf (p:=1) HF.out;have f2:wr.cell? ⟨sb+1,2,none⟩=some (.func (.func 126) #[.pointer (some ⟨sb,0,none⟩)] #[]):=zf (p:=2) HF.out;by_cases hk3:k=3
   ·subst hk3;have HL:=O (zkS HC.out);go_wp2;go_ret;exact ⟨_,rfl,by rw [HW.out,<-HL.out];exact HS.out.row.base lR (Nat.le_of_lt HS.out.sp.lt),HS.out.bel⟩
   by_cases hpos:0 < left
   case neg =>
    have HN:=O (zjR HC.out hpos (by omega) HWno.out HW1.out HW2.out)
    rcases (by omega:k=0\/k=1\/k=2) with rfl | rfl | rfl
    all_goals
     go_wp2;go_roundw
     case rel=>exact ⟨_,left,L,by go_num,by omega,HS,HF,HN⟩
     case measure=>simp [intOf]
   case pos =>
    obtain ⟨hV,hst⟩:=ziP HC.out hpos (by omega);clear HC
    rcases hst with ⟨rfl,rfl,rfl⟩ | ⟨rfl,rfl,rfl⟩ | ⟨rfl,rfl,rfl⟩
    ·have hst:=HSt.out hV;have HKe:=O (ze6 w sb ac ar cc cr t width g cap (zG t) sb (z0D t width) (zB t) HT0.out.1 hC88 rfl hlen hall hg0 hgD5 lR hw hst.1 wr HS.out);clear hst;go_wp2_with (go_at_call 124;refine HKe.out.mono ?_;rintro e w8 ⟨rfl,hS8,hb8⟩;replace HF:=O ((hb8.block (sb+1) (bL HF.out) (by omega) (by omega)).trans HF.out);clear hb8 HKe s6 s7 f0 f1 f2)
     go_roundw
     case rel=>exact ⟨1,_,_,by go_num,by omega,hS8,HF,.inr (.inl ⟨rfl,.inl ⟨hV,rfl,rfl⟩⟩)⟩
     case measure=>simp [intOf]
    ·have hst:=HSt.out hV;have HKe:=O (zdr w sb ac ar cc cr t width g cap (zG t) sb (z1M t width) (z13 t width) hD HT0.out.1 HT0.out.2 (HOw.out hV) hC88 rfl hst.2.2.2.1 (HSm.out hV).1 hg0 hgD5 lR hst.2.1 wr HS.out);clear hst;go_wp2_with (go_at_call 125;refine HKe.out.mono ?_;rintro e w8 ⟨rfl,hS8,hb8⟩;replace HF:=O ((hb8.block (sb+1) (bL HF.out) (by omega) (by omega)).trans HF.out);clear hb8 HKe s6 s7 f0 f1 f2)
     go_roundw
     case rel=>exact ⟨2,_,_,by go_num,by omega,hS8,HF,.inr (.inr (.inl ⟨rfl,.inl ⟨hV,rfl,rfl⟩⟩))⟩
     case measure=>simp [intOf]
    ·have hst:=HSt.out hV;have HKe:=O (zcf w sb ac ar cc cr t width g cap (zG t) sb (z1N t width) (z1W t width) HT0.out.1 hC88 hst.2.2.2.2.1 (HSm.out hV).2 hg0 hgD5 lR (by have:=hst.2.2.1;omega) wr HS.out);clear hst;go_wp2_with (go_at_call 126;refine HKe.out.mono ?_;rintro e w8 ⟨rfl,⟨left8,hS8⟩,hb8⟩;replace HF:=O ((hb8.block (sb+1) (bL HF.out) (by omega) (by omega)).trans HF.out);clear hb8 HKe s6 s7 f0 f1 f2)
     go_roundw
     case rel=>exact ⟨3,_,_,by go_num,by omega,hS8,HF,.inr (.inr (.inr ⟨rfl,(HWr.out hV).symm⟩))⟩
     case measure=>simp [intOf]
end
section
open Go.RowKit
theorem zav (ac ar:Option Addr) (cc cr:Nat) (t:T) (x:GC) {C:Nat} (hx:Cel t C x) (w:World) {z:Nat} (hr:z05 w z (.slice ar t.rows.length cr) t.rows) :
  Calls prog 86 #[.agg #[.slice ac t.cols.length cc,int i64 t.head,int i64 t.foot,.slice ar t.rows.length cr,int i64 t.gap],.agg #[int i64 x.row,int i64 x.col,int i64 x.rows,int i64 x.cols,int i64 x.ins]] w λe w'=>e=.returned (.string (zR t x))/\(zR t x).size<=maxLen/\Below w.heap.size w w':=by
 obtain ⟨rn,jn,cn,mn,e1,e2,e3,e4,h1,h2,h3,h4,h5⟩:=hx.ex;have HTx:Hid (zR t x=((t.rows.getD rn dR).cells.getD jn dC).s):=(by rw [Hid,zR,e1,e2,Int.toNat_natCast,Int.toNat_natCast]);have K1:=ze (Below.refl w.heap.size w) (.cells #[.slice ac t.cols.length cc,int i64 t.head,int i64 t.foot,.slice ar t.rows.length cr,int i64 t.gap] 26);have X1:=zj w (.cells #[.slice ac t.cols.length cc,int i64 t.head,int i64 t.foot,.slice ar t.rows.length cr,int i64 t.gap] 26);have hs1:(w.alloc (.cells #[.slice ac t.cols.length cc,int i64 t.head,int i64 t.foot,.slice ar t.rows.length cr,int i64 t.gap] 26)).heap.size=w.heap.size+1:=(by simp);rw [e1,e2];clear e1 e2 e3 e4;go_enter func86,ntmps86;go_upto_region 1 with fail
 have K2:=ze K1 (.cells #[int i64 (rn:Int),int i64 x.col,int i64 x.rows,int i64 x.cols,int i64 (jn:Int)] 51);have X2:=zj (w.alloc (.cells #[.slice ac t.cols.length cc,int i64 t.head,int i64 t.foot,.slice ar t.rows.length cr,int i64 t.gap] 26)) (.cells #[int i64 (rn:Int),int i64 x.col,int i64 x.rows,int i64 x.cols,int i64 (jn:Int)] 51);have X1':=(Below.heap_alloc (w.alloc (.cells #[.slice ac t.cols.length cc,int i64 t.head,int i64 t.foot,.slice ar t.rows.length cr,int i64 t.gap] 26)) (.cells #[int i64 (rn:Int),int i64 x.col,int i64 x.rows,int i64 x.cols,int i64 (jn:Int)] 51) w.heap.size (by omega)).trans X1;rw [hs1] at X2;generalize (w.alloc (.cells #[.slice ac t.cols.length cc,int i64 t.head,int i64 t.foot,.slice ar t.rows.length cr,int i64 t.gap] 26)).alloc (.cells #[int i64 (rn:Int),int i64 x.col,int i64 x.rows,int i64 x.cols,int i64 (jn:Int)] 51)=W at K2 X2 X1' |-;obtain ⟨rb,roff,rcap,re,rc1,rc2,rbl,u,hu0,_,hu⟩:=At.get (hr.kept K2) h1;simp only [Value.slice.injEq,true_and] at re;obtain ⟨rfl,rfl⟩:=re;obtain ⟨qb,qoff,qcap,qe,qc1,qc2,qbl,hv,hsl⟩:=At.get hu h2;subst qe;have v0:=hv.1;have q3:=zf (p:=3) X1';have q0:=zf (p:=0) X2;have q4:=zf (p:=4) X2;have HSZ:Hid ((zR t x).size<=maxLen):=(by rw [Hid,HTx.out];exact hsl);have HK:=O K2;unfold maxLen at rc2 qc2;generalize (t.rows.getD rn dR).cells.getD jn dC=y at v0 hsl HTx;generalize (t.rows.getD rn dR).cells.length=rl at hu0 h2 qc1;clear hu hv hr h3 h4 h5 hx K1 X1 hs1 K2 X2 X1';go_quiet (fail)
 go_wp2;go_ret;exact ⟨by rw [HTx.out];rfl,HSZ.out,z4a HK.out nq⟩
end
section
open Go.RowKit Go.BigFrame
def NdW (W2:World) (D:Nat) (v:Value) (L:List Int) (cb:Nat) (bx:Obj) (W:World):Prop:=Below W2.heap.size W2 W/\zq W W2.heap.size D v L/\W.heap[cb]?=some bx
theorem NdW.kept {W2 W W':World} {D cb:Nat} {v:Value} {L:List Int} {bx:Obj} (h:NdW W2 D v L cb bx W) (hb:Below W.heap.size W W'):NdW W2 D v L cb bx W' :=
 ⟨h.1.trans (hb.mono h.1.size),h.2.1.kept (λj h0 _ _=>hb.block j h0),(hb.block cb (bL h.2.2)).trans h.2.2⟩
theorem z7d (bb:Bool) (p:ByteArray->Int) (hp:(bb=true/\p=λs=>((z0E (zZ s):Nat):Int))\/(bb=false/\p=λs=>((z2A s:Nat):Int))) (ac ar:Option Addr) (cc cr:Nat) (t:T) (hD:z0g t) (ag:Option Addr) (cg:Nat) (w:World) {z zg:Nat} (hr:z05 w z (.slice ar t.rows.length cr) t.rows) (hg:z1K w zg (.slice ag (Z t).cells.length cg) (Z t).cells) (C:Nat) (hgc:(Z t).cols=C) (hC1:1<=C) (a0:Option Addr) (c0:Nat) (h0:zA w (.slice a0 C c0) (z02 C)) :
  Calls prog 117 #[.agg #[.slice ac t.cols.length cc,int i64 t.head,int i64 t.foot,.slice ar t.rows.length cr,int i64 t.gap],.agg #[int i64 (Z t).rows,int i64 (Z t).cols,.slice ag (Z t).cells.length cg],.bool bb,.slice a0 C c0] w λe w'=>∃ v,e=.returned v/\zq w' w.heap.size w'.heap.size v (z0T (λx=>p (zR t x)) t.gap (Z t).cells (z02 C) 4)/\Below w.heap.size w w':=by
 obtain ⟨i0,hi0,hz0,hz1,hz2⟩:=info_parts zdv;obtain ⟨h40,C',hgc',hC88,hcel⟩:=z35 hD;obtain rfl:C'=C:=by rw [hgc'] at hgc;omega
 have hzl:(z02 C').length=C':=(by simp [z02])
 have hq:∀ s,0<=p s/\p s<=30:=λs=>by
  rcases hp with ⟨_,rfl⟩ | ⟨_,rfl⟩
  ·have:=z58 (zZ s);show 0<=((z0E (zZ s):Nat):Int)/\((z0E (zZ s):Nat):Int)<=30;omega
  ·have:=z8r s;show 0<=((z2A s:Nat):Int)/\((z2A s:Nat):Int)<=30;omega
 obtain ⟨P,hP⟩:∃ P:GC->Int,P=λx=>p (zR t x):=⟨_,rfl⟩;have hpl:∀ x:GC,P x<=30:=λx=>by rw [hP];exact (hq _).2
 have hpl0:∀ x:GC,0<=P x:=λx=>by rw [hP];exact (hq _).1
 have HPx:=O (λx=>show P x=p (zR t x) by rw [hP]);have HPp:=O hp;clear hp hq;rw [<-hP];clear hP;have HCel:=O hcel;have hup:=z8N (p:=P) (l:=z02 C') hcel h40 hzl hpl (zaS _);have hps:=λs hs=>z8M (p:=P) (s:=((s+1:Nat):Int)) (l:=z0T P t.gap (Z t).cells (z02 C') s) hcel (by rw [z3v];exact hzl) hpl (hup s hs);have HPs:=O hps;have hmx:prog.follows .mixedOrders=true:=(by kernel_rfl);obtain ⟨b0,off0,cap0,e0,_,_,hbw0,_⟩:=h0.get (show 0 < (z02 C').length by omega);simp only [Value.slice.injEq,hzl,true_and] at e0;obtain ⟨rfl,rfl⟩:=e0;obtain ⟨W1,hW1⟩:∃ W1,w.alloc (.cells #[.slice ac t.cols.length cc,int i64 t.head,int i64 t.foot,.slice ar t.rows.length cr,int i64 t.gap] 26)=W1:=⟨_,rfl⟩;have hs1:W1.heap.size=w.heap.size+1:=(by rw [<-hW1];simp);have K1:Below w.heap.size w W1:=(by rw [<-hW1];exact ze bR _);have X1:W1.heap[w.heap.size]?=some (.cells #[.slice ac t.cols.length cc,int i64 t.head,int i64 t.foot,.slice ar t.rows.length cr,int i64 t.gap] 26):=(by rw [<-hW1];exact zj _ _);obtain ⟨W2,hW2⟩:∃ W2,W1.alloc (.cells #[int i64 (Z t).rows,int i64 (Z t).cols,.slice ag (Z t).cells.length cg] 38)=W2:=⟨_,rfl⟩;have hs2:W2.heap.size=w.heap.size+2:=(by rw [<-hW2];simp [hs1]);have K2:Below w.heap.size w W2:=(by rw [<-hW2];exact ze K1 _);have X2:W2.heap[w.heap.size]?=some (.cells #[.slice ac t.cols.length cc,int i64 t.head,int i64 t.foot,.slice ar t.rows.length cr,int i64 t.gap] 26):=(by rw [<-hW2];exact (bA (by omega)).trans X1)
 have Y2:W2.heap[w.heap.size+1]?=some (.cells #[int i64 (Z t).rows,int i64 (Z t).cols,.slice ag (Z t).cells.length cg] 38):=by
  have:=zj W1 (.cells #[int i64 (Z t).rows,int i64 (Z t).cols,.slice ag (Z t).cells.length cg] 38);rw [hW2,hs1] at this;exact this
 have H2:=O (And.intro (hr.kept K2) (And.intro (hg.kept K2) (And.intro X2 Y2)));have HI2:=O (h0.kept K2);have HK2:=O K2;clear hr hg h0 X1 K1 X2 Y2 K2 hcel hup hps hD hgc hgc';go_enter func117,ntmps117;go_upto_region 1 with fail
 clear hW1 hW2 W1 hs1;have HS2:=O hs2;clear hs2;go_wp2_with (at_builtin;refine wpList_append_own_at _ rfl _ _ 27 rfl W2.heap.size 3 i0 (int i64 0) 1 8 underlying27 hi0 hz0 hz1 hz2 rfl (by decide) _ 0 [] rfl (World.ownsRow_made (base:=W2.heap.size) (e:=3) (size:=1) W2 #[] 0 lR nZ rfl) ⟨b0,off0,none⟩ C' c0 ((z02 C').map (Value.int .i64)) rfl ?e1 (z8y HI2.out (ze bR _)) (zb5 _) ?e4 ?e5 ?e6 ?_)
 case e1=>simp [z02]
 case e4=>unfold maxLen;omega
 case e5=>omega
 case e6=>simp
 intro v3 w3 ho3 hg3 _ _;have R3:=O (zq.of_owns (l:=z02 C') (by simpa [z02] using ho3))
 have K3:Hid (Below W2.heap.size W2 w3):=(ze (Below.refl W2.heap.size W2) (.cells #[] 3)).grown hg3 (by simp) (λq hq=>by
  have:q=W2.heap.size:=(by simpa [Value.ownBlock] using hq.symm)
  omega)
 obtain ⟨a3,c3,rfl⟩:=R3.out.form;rw [hzl] at R3 |-;clear ho3 hg3 HI2;go_wp2_with fail
 go_loopw [10] (λs W=>∃ m:Nat,s=int i64 ((m:Int)+1)/\m<=4/\Hid (zq W W2.heap.size w3.heap.size (.slice a3 C' c3) (z0T P t.gap (Z t).cells (z02 C') m))/\Hid (Below W2.heap.size W2 W)/\w3.heap.size<=W.heap.size) (λs _=>5 - (intOf s).toNat)
 case atStart=>exact ⟨0,rfl,by omega,R3,K3,lR⟩
 case round =>
  clear R3 K3;obtain ⟨m,rfl,hm,HR,HB,hsz⟩:=hrel;by_cases hlt:m < 4
  case neg =>
   obtain rfl:m=4:=by omega
   have HF:=O (HR.out.base (B':=w.heap.size) (D':=wr.heap.size) (by rw [HS2.out];omega) hsz);have HK:=O (HK2.out.trans (HB.out.mono (by rw [HS2.out];omega)));go_wp2;go_ret;exact ⟨_,rfl,HF.out,HK.out⟩
  have HUm:=O (HPs.out m (by omega) (by omega));go_wp2_with fail
  rw [show decide ((m:Int)+1<=4)=true by simp;omega];go_loopw [11] (λs W=>∃ k:Nat,s=int i64 k/\k<=(Z t).cells.length/\Hid (zq W W2.heap.size w3.heap.size (.slice a3 C' c3) (z1H P t.gap ((m+1:Nat):Int) (Z t).cells (z0T P t.gap (Z t).cells (z02 C') m) k))/\Hid (Below W2.heap.size W2 W)/\w3.heap.size<=W.heap.size) (λs _=>(Z t).cells.length - (intOf s).toNat)
  case atStart=>exact ⟨0,rfl,nZ,HR,HB,hsz⟩
  case round=>as_aux_lemma =>
   clear HR HB hsz;obtain ⟨k,rfl,hk,HR,HB,hsz⟩:=hrel;have Y:=O ((HB.out.block (w.heap.size+1) (by rw [HS2.out];omega)).trans H2.out.2.2.2);have y2:wr.cell? ⟨w.heap.size+1,2,none⟩=some (.slice ag (Z t).cells.length cg):=zf Y.out;have hyw:w.heap.size+1 < wr.heap.size:=(bL Y.out);by_cases hkl:k < (Z t).cells.length
   case neg =>
    obtain rfl:k=(Z t).cells.length:=by omega
    clear Y;go_wp2;go_roundw
    case rel=>exact ⟨m+1,by go_num,by omega,HR,HB,hsz⟩
    case measure=>simp [intOf];omega
   obtain ⟨b,off,cap',e',hc1,hc2,hbl,hx,_⟩:=At.get (H2.out.2.1.kept HB.out) hkl;simp only [Value.slice.injEq,true_and] at e';obtain ⟨rfl,rfl⟩:=e';unfold maxLen at hc2;have HCe:=O (HCel.out k hkl);have HSz:=O (z6M HCe.out (H2.out.1.kept HB.out));obtain ⟨⟨rn,jn,cn,mn,e1,e2,e3,e4,h1,h2,h3,h4,h5⟩,hgp,hrs⟩:=HCel.out k hkl;have hub:=HUm.out k hk;have HNo:Hid ((mn:Int) ≠ ((m+1:Nat):Int)->z1H P t.gap ((m+1:Nat):Int) (Z t).cells (z0T P t.gap (Z t).cells (z02 C') m) (k+1)=z1H P t.gap ((m+1:Nat):Int) (Z t).cells (z0T P t.gap (Z t).cells (z02 C') m) k):=λh=>by rw [z1H,if_neg (by rw [e4];exact h)]
   have HYes:Hid ((mn:Int)=((m+1:Nat):Int)->z1H P t.gap ((m+1:Nat):Int) (Z t).cells (z0T P t.gap (Z t).cells (z02 C') m) (k+1)=z3a (z1H P t.gap ((m+1:Nat):Int) (Z t).cells (z0T P t.gap (Z t).cells (z02 C') m) k) cn mn t.gap (P ((Z t).cells.getD k dG))):=λh=>by rw [z1H,if_pos (by rw [e4];exact h),e3,e4,Int.toNat_natCast,Int.toNat_natCast]
   have hll:=z4i P t.gap ((m+1:Nat):Int) (Z t).cells (z0T P t.gap (Z t).cells (z02 C') m) k;rw [z3v,hzl] at hll;generalize (Z t).cells.getD k dG=x at hx e1 e2 e3 e4 HYes hrs HCe HSz;generalize hL:z1H P t.gap ((m+1:Nat):Int) (Z t).cells (z0T P t.gap (Z t).cells (z02 C') m) k=L at HR HNo HYes hub hll;clear hL;have HKT:=O (λ(W:World) (hR:z05 W z (.slice ar t.rows.length cr) t.rows)=>zav ac ar cc cr t x HCe.out W hR);simp only [e1,e2,e3,e4] at HKT;obtain ⟨x0,x1,x2,x3,x4⟩:=hx;rw [e1] at x0;rw [e2] at x4;rw [e3] at x1;rw [e4] at x3;by_cases hms:(mn:Int)=(m:Int)+1
   case neg =>
    have hmb:((mn:Int) != (m:Int)+1)=true:=(by simpa using hms);have HL:=O (HNo.out (by omega));clear HNo HYes e1 e2 e3 e4 hms Y;go_wp2;go_roundw
    case rel=>exact ⟨k+1,by go_num,by omega,by rw [HL.out];exact HR.out.kept (λj h0 _ _=>bA h0),ze HB.out _,by simp;omega⟩
    case measure=>simp [intOf];omega
   obtain rfl:mn=m+1:=by omega
   have HL:=O (HYes.out rfl);have hmb:((m:Int)+1 != (m:Int)+1)=false:=(by simp);have hcast:((m+1:Nat):Int)=(m:Int)+1:=(by omega);rw [hcast] at x3;simp only [hcast] at HKT;clear HNo HYes e1 e2 e3 e4 hms hcast;go_upto_region 10 with fail
   have HN4:Hid (NdW W2 w3.heap.size (.slice a3 C' c3) L wr.heap.size (.cells #[int i64 (rn:Int),int i64 (cn:Int),int i64 x.rows,int i64 ((m:Int)+1),int i64 (jn:Int)] 51) (wr.alloc (.cells #[int i64 (rn:Int),int i64 (cn:Int),int i64 x.rows,int i64 ((m:Int)+1),int i64 (jn:Int)] 51))):=⟨ze HB.out _,HR.out.kept (λj h0 _ _=>bA h0),zj _ _⟩;have hsz4:w3.heap.size<=(wr.alloc (.cells #[int i64 (rn:Int),int i64 (cn:Int),int i64 x.rows,int i64 ((m:Int)+1),int i64 (jn:Int)] 51)).heap.size:=(by simp;omega);generalize wr.alloc (.cells #[int i64 (rn:Int),int i64 (cn:Int),int i64 x.rows,int i64 ((m:Int)+1),int i64 (jn:Int)] 51)=W4 at HN4 hsz4 |-;have HCz:Hid (w3.heap.size<=wr.heap.size):=hsz;generalize wr.heap.size=cb at HN4 HCz |-;clear Y HR HB hsz x0 x1 x2 x3 x4 hbl y2 hyw;have X4:=(HN4.out.1.block w.heap.size (by rw [HS2.out];omega)).trans H2.out.2.2.1;have C4:=HN4.out.2.2;have ht4:w.heap.size < W4.heap.size:=(bL X4);have hcb4:cb < W4.heap.size:=(bL C4);obtain ⟨b0,b1,b2,b3,b4⟩:W4.cell? ⟨w.heap.size,0,none⟩=some (.slice ac t.cols.length cc)/\W4.cell? ⟨w.heap.size,1,none⟩=some (int i64 t.head)/\W4.cell? ⟨w.heap.size,2,none⟩=some (int i64 t.foot)/\W4.cell? ⟨w.heap.size,3,none⟩=some (.slice ar t.rows.length cr)/\W4.cell? ⟨w.heap.size,4,none⟩=some (int i64 t.gap):=⟨zf X4,zf X4,zf X4,zf X4,zf X4⟩;obtain ⟨q0,q1,q2,q3,q4⟩:W4.cell? ⟨cb,0,none⟩=some (int i64 (rn:Int))/\W4.cell? ⟨cb,1,none⟩=some (int i64 (cn:Int))/\W4.cell? ⟨cb,2,none⟩=some (int i64 x.rows)/\W4.cell? ⟨cb,3,none⟩=some (int i64 ((m:Int)+1))/\W4.cell? ⟨cb,4,none⟩=some (int i64 (jn:Int)):=⟨zf C4,zf C4,zf C4,zf C4,zf C4⟩;clear X4 C4;go_wp2_with fail
   refine (HKT.out _ (H2.out.1.kept HN4.out.1)).mono ?_;rintro e w5 ⟨rfl,_,hb5⟩;have HN5:=O (HN4.out.kept hb5);have hsz5:w3.heap.size<=w5.heap.size:=nT hsz4 hb5.size;clear hb5 HN4 hsz4 b0 b1 b2 b3 b4 q0 q1 q2 q3 q4 ht4 hcb4;go_wp2_with fail
   refine (zea _ HSz.out _).mono ?_;rintro e w6 ⟨rfl,rfl⟩;refine Or.elim HPp.out ?hT ?hF
   case' hT =>
    rintro ⟨rfl,rfl⟩;obtain ⟨b0,b1,b2,b3,b4⟩:=zL ((HN5.out.1.block w.heap.size (by rw [HS2.out];omega)).trans H2.out.2.2.1);obtain ⟨q0,q1,q2,q3,q4⟩:=zL HN5.out.2.2;have ht5:=(Array.getElem?_eq_some_iff.1 ((HN5.out.1.block w.heap.size (by rw [HS2.out];omega)).trans H2.out.2.2.1)).1;have hcb5:=(bL HN5.out.2.2);go_wp2_with fail
    refine (HKT.out _ (H2.out.1.kept HN5.out.1)).mono ?_;rintro e w7 ⟨rfl,_,hb7⟩;have HN7:=O (HN5.out.kept hb7);have hsz7:w3.heap.size<=w7.heap.size:=nT hsz5 hb7.size;clear hb7 HN5 hsz5 b0 b1 b2 b3 b4 q0 q1 q2 q3 q4 ht5 hcb5;go_wp2_with fail
    refine (zdu _ HSz.out _).mono ?_;rintro e W8 ⟨rfl,hb8⟩;have HN8:=O (HN7.out.kept hb8);have hsz8:w3.heap.size<=W8.heap.size:=nT hsz7 hb8.size;clear hb8 HN7 hsz7;rw [<-(show P x=((z0E (zZ (zR t x)):Nat):Int) from HPx.out x)]
   case' hF =>
    rintro ⟨rfl,rfl⟩;generalize w6=W8 at HN5 hsz5;have HN8:=HN5;have hsz8:=hsz5;clear HN5 hsz5;rw [<-(show P x=((z2A (zR t x):Nat):Int) from HPx.out x)]
   all_goals
    have hp0:=hpl0 x;have hp30:=hpl x;have HLk:Hid (z1i L cn (m+1) t.gap (P x)=P x - ((z07 L cn (m+1)).sum+t.gap * (m:Int))):=(by rw [Hid,z1i,show ((m+1:Nat):Int) - 1=(m:Int) by omega]);have HOk:=O (λh=>(zaR (l:=L) (c:=cn) (m:=m+1) (gap:=t.gap) (need:=P x) (λi hi=>by have:=hub i hi;omega) (by omega) ⟨h4,h5⟩ hgp hp30 h).1);have HWn:Hid (z1i L cn (m+1) t.gap (P x)<=0->z3a L cn (m+1) t.gap (P x)=L):=λh=>by rw [z3a,if_pos h]
    have HWy:Hid (¬ z1i L cn (m+1) t.gap (P x)<=0->z3a L cn (m+1) t.gap (P x)=z2E L cn (zy (z1i L cn (m+1) t.gap (P x)) (z07 L cn (m+1))) (m+1)):=λh=>by rw [z3a,if_neg h]
    have hG:=zgS hgp hlt;have HSubF:=O (zgR hub (show 1200 * (m:Int)+30 * (k:Int)<=50000 by omega) hll h3 h5);have HcL:Hid (cn+(m+1)<=L.length):=(by rw [Hid,hll];exact h3);generalize P x=need at hp0 hp30 HLk HOk HWn HWy HL;go_upto_region 13 with fail
    obtain ⟨g3,cap3,eg3,hBg3,hgD3,hgw3,hc13,hc23,_,_⟩:=HN8.out.2.1.get (i:=cn) (by omega);rw [hll] at eg3;simp only [Value.slice.injEq,true_and] at eg3;obtain ⟨rfl,rfl⟩:=eg3;unfold maxLen at hc23;rw [hll] at hc13;have HBg:=O hBg3;have HgD:=O hgD3;obtain ⟨t3,t4,t5,t6,t10,t11,t12,t13⟩:=zd0 (nT h3 hc13) (nT h3 hC88);obtain ⟨hwt,hsm,hsl⟩:=HSubF.out;have HSub:=O (HN8.out.2.1.sub (c:=cn) (m:=m+1) HcL.out (Nat.succ_le_succ (Nat.zero_le m)));have hne:=z0H W8;have hsl1:(z07 L cn (m+1)).length<=1000:=(by rw [hsl];omega);have KSm:=O (λ(p:BW W8)=>z1U (z0I _ (z07 L cn (m+1)) hsl1 hwt p.u (HSub.out.kept p.h)));have hcb:cb < W8.heap.size:=(bL HN8.out.2.2);have X8:=(HN8.out.1.block w.heap.size (by rw [HS2.out];omega)).trans H2.out.2.2.1;have htb:w.heap.size < W8.heap.size:=(bL X8);have g1:=zm (a:=⟨cb,1,none⟩) hcb (zf (p:=1) HN8.out.2.2);have g2:=zm (a:=⟨cb,3,none⟩) hcb (zf (p:=3) HN8.out.2.2);have g4:=zm (a:=⟨w.heap.size,4,none⟩) htb (zf (p:=4) X8);clear X8 HKT HSz HCe hwt hsl1;generalize (z07 L cn (m+1)).sum=Y at KSm HLk hsm;refine zv hmx (by kernel_rfl) ?_;repeat (go_big_quiet_step (first | (go_at_call 52;refine KSm.out _)))
    refine wpQuiet_nil ?_;intro W9 hw';obtain ⟨⟨Wx,hW9⟩,hw''⟩:=hw';subst hw'';have HN9:=O (HN8.out.kept hW9);have hsz9:w3.heap.size<=W9.heap.size:=nT hsz8 hW9.size;have HSub9:=O (HSub.out.kept hW9);clear g1 g2 g4 KSm HN8 hsz8 HSub hW9 hne hcb htb;by_cases hl:need<=Y+t.gap * (m:Int)
    case pos =>
     have hlb:¬ (Y+t.gap * (m:Int) < need):=(by omega);have HL2:=O (HL.out.trans (HWn.out (by rw [HLk.out];omega)));clear HLk HOk HWn HWy HL hl t3 t4 t5 t6 t10 t11 t12 t13;go_wp2;go_roundw
     case rel=>exact ⟨k+1,by go_num,by omega,by rw [HL2.out];exact HN9.out.2.1,HN9.out.1,hsz9⟩
     case measure=>simp [intOf];omega
    have hlb:Y+t.gap * (m:Int) < need:=(by omega);have hlk:0 < z1i L cn (m+1) t.gap need:=(by rw [HLk.out];omega);have HL2:=O (HL.out.trans (HWy.out (by omega)));have hok:=HOk.out hlk;have KSh:=O (z9e (z1i L cn (m+1) t.gap need) (.slice (some ⟨g3,cn,none⟩) (m+1) (c3 - cn)) (z07 L cn (m+1)) hok (by rw [hsl];omega) W9 HSub9.out);have HSB:=O (λk hk=>z1G (t:=z1i L cn (m+1) t.gap need) (l:=z07 L cn (m+1)) k hk);have hshl:=z1B hok;rw [hsl] at hshl;rw [HLk.out] at KSh HL2 HSB hshl;clear hok hlk HOk HWn HWy HL HLk hl;generalize zy (need - (Y+t.gap * (m:Int))) (z07 L cn (m+1))=sh at KSh HL2 HSB hshl;obtain ⟨q0,q1,q2,q3,q4⟩:=zL HN9.out.2.2;have hcb:=(bL HN9.out.2.2);go_wp2_with fail
    refine KSh.out.mono ?_;rintro e w10 ⟨v10,rfl,hr10,hb10⟩;obtain ⟨a10,c10,rfl⟩:=hr10.form;rw [hshl] at hr10 |-;have HN10:=O (HN9.out.kept hb10);have HS10:=O hr10;have hz9:w3.heap.size<=W9.heap.size:=hsz9;have hz10:W9.heap.size<=w10.heap.size:=hb10.size;clear hr10 hb10 KSh HN9 hsz9 HSub9 q0 q1 q2 q3 q4 hcb t3 t4 t5 t6 t10 t11 t12 t13;go_wp2_with fail
    go_loopw [16] (λs W=>∃ j:Nat,s=int i64 j/\j<=m+1/\Hid (NdW W2 w3.heap.size (.slice (some ⟨g3,0,none⟩) C' c3) (z2E L cn sh j) cb (.cells #[int i64 (rn:Int),int i64 (cn:Int),int i64 x.rows,int i64 ((m:Int)+1),int i64 (jn:Int)] 51) W)/\Hid (zq W W9.heap.size w10.heap.size (.slice a10 (m+1) c10) sh)/\w10.heap.size<=W.heap.size) (λs _=>m+1 - (intOf s).toNat)
    case atStart=>exact ⟨0,rfl,nZ,HN10,HS10,lR⟩
    case round=>as_aux_lemma =>
     clear HN10 HS10;obtain ⟨j,rfl,hj,HN,HS,hszj⟩:=hrel;by_cases hjm:j < m+1
     case neg =>
      obtain rfl:j=m+1:=by omega
      go_wp2;go_roundw
      case rel=>exact ⟨k+1,by go_num,by omega,by rw [HL2.out];exact HN.out.2.1,HN.out.1,by omega⟩
      case measure=>simp [intOf];omega
     obtain ⟨gs,cs,es,hBs,hDs,hgsw,hcs1,hcs2,hsx,_⟩:=HS.out.get (i:=j) (by omega);simp only [Value.slice.injEq,hshl,true_and] at es;obtain ⟨rfl,rfl⟩:=es;obtain ⟨g4,c4,ex4,_,_,hgw4,_,_,hxx,_⟩:=HN.out.2.1.get (i:=cn+j) (by rw [z3n];omega);rw [z3n,hll] at ex4;simp only [Value.slice.injEq,Option.some.injEq,Addr.mk.injEq,and_true,true_and] at ex4;have eg4:=ex4.1;clear ex4;subst eg4;rw [z6H L cn sh (i:=cn+j) j (λi hi=>by omega)] at hxx;have hbx:0<=L.getD (cn+j) 0/\L.getD (cn+j) 0<=50000:=(by have:=hub (cn+j) (by omega);omega);have hbs:=HSB.out j (by omega);have v1:(j:Int) < (m:Int)+1:=(by omega);have v2:(j:Int) < ((m+1:Nat):Int):=(by omega);have HN2:Hid (z2E L cn sh (j+1)=(z2E L cn sh j).set (cn+j) (L.getD (cn+j) 0+sh.getD j 0)):=rfl;have HLj:Hid (cn+j < (z2E L cn sh j).length):=(by rw [Hid,z3n];omega);have HMe:Hid (m+1 - (j+1) < m+1 - j):=(by rw [Hid];omega);have HGo:Hid (W2.heap.size<=g3):=HBg.out;have HCb:Hid (cb ≠ g3):=(by rw [Hid];have h8:=HgD.out;have h9:=HCz.out;omega);have HSs:Hid (g3 < W9.heap.size):=(by rw [Hid];have:=HgD.out;omega);have HSet:=O (λW (h:Below wr.heap.size wr W)=>(HN.out.kept h).2.1.set (i:=cn+j) HLj.out (L.getD (cn+j) 0+sh.getD j 0));rw [<-HN2.out] at HSet;generalize L.getD (cn+j) 0=y at hxx hbx HSet;generalize sh.getD j 0=q at hsx hbs HSet;obtain ⟨u1,u2,u3,u4,u5⟩:=zgQ (cn:=cn) (j:=j) (C:=C') (by omega) hC88;have hcbj:=(bL HN.out.2.2);have hne:=z0H wr;have r1:=zm (a:=⟨cb,1,none⟩) hcbj (zf (p:=1) HN.out.2.2);have r2:=zm (a:=⟨g3,cn+j,none⟩) hgw4 hxx;have r3:=zm (a:=⟨gs,j,none⟩) hgsw hsx;unfold maxLen at hcs2;have hc13':C'<=c3:=hc13;have hsum:IntKind.i64.wrap (y+q)=y+q:=z56 (by omega);have hsum2:wrap64 (y+q)=y+q:=z32 (by omega);clear HN2 hsx hxx hub hsm hG hgp hp0 hp30 hlb;go_upto_region 19 with fail
     refine z1g 18 hmx (by rfl) (by rfl) (by kernel_rfl) (by kernel_rfl) ?_;simp only [List.take_succ_cons,List.take_zero];repeat (go_big_quiet_step (fail))
     refine wpQuiet_nil ?_;intro W5 hw';obtain ⟨⟨Wx,hW5⟩,hw''⟩:=hw';subst hw'';have HR5:=O (HSet.out _ hW5);have HN5:=O (HN.out.kept hW5);have HS5:=O (HS.out.kept (λj h0 _ _=>hW5.block j h0));have hsz5:w10.heap.size<=W5.heap.size:=nT hszj hW5.size;obtain ⟨g5,c5,ex5,_,_,hgw5,_,_,hx5,hf5⟩:=HN5.out.2.1.get (i:=cn+j) HLj.out;simp only [Value.slice.injEq,Option.some.injEq,Addr.mk.injEq,and_true] at ex5;have eg5:=ex5.1;clear ex5;subst eg5;clear r1 r2 r3 HSet HN HS hW5 hne hszj;have HN6:Hid (NdW W2 w3.heap.size (.slice (some ⟨g3,0,none⟩) C' c3) (z2E L cn sh (j+1)) cb (.cells #[int i64 (rn:Int),int i64 (cn:Int),int i64 x.rows,int i64 ((m:Int)+1),int i64 (jn:Int)] 51) (W5.setCell ⟨g3,cn+j,none⟩ (int i64 (y+q)))):=⟨z2s HN5.out.1 (p:=⟨g3,cn+j,none⟩) HGo.out _,HR5.out,(bS HCb.out).trans HN5.out.2.2⟩;have HS6:=O (HS5.out.kept (w':=W5.setCell ⟨g3,cn+j,none⟩ (int i64 (y+q))) (λi _ h1 _=>bS (λe=>by have e':i=g3:=e;subst e';exact absurd h1 (Nat.not_le.2 HSs.out))));have HZ6:Hid (w10.heap.size<=(W5.setCell ⟨g3,cn+j,none⟩ (int i64 (y+q))).heap.size):=(by rw [Hid,z31];exact hsz5);have HJ:Hid (j+1<=m+1):=hjm;clear HN5 HR5 HS5 hsz5;rw [if_pos (by rfl)];go_simp;clear u1 u2 u3 u4 u5 hsum hsum2;go_wp2;go_roundw
     case rel=>exact ⟨j+1,by go_num,HJ.out,HN6,HS6,HZ6.out⟩
     case measure=>simp [intOf];omega
theorem zaw (r:Int) (vg:Value) (C:Nat) (hC:C<=88) (w:World) :
  Calls prog 118 #[.agg #[int i64 r,int i64 (C:Int),vg]] w λe w'=>∃ v,e=.returned v/\zq w' w.heap.size w'.heap.size v (z02 C)/\Below w.heap.size w w':=by
 have hmk:=z5I C (by omega);have X0:=zj w (.cells #[int i64 r,int i64 (C:Int),vg] 38);have x1:(w.alloc (.cells #[int i64 r,int i64 (C:Int),vg] 38)).cell? ⟨w.heap.size,1,none⟩=some (int i64 (C:Int)):=zf X0;clear X0;go_enter func118,ntmps118;go_wp2;go_ret;have R:=z4n (w.alloc (.cells #[int i64 r,int i64 (C:Int),vg] 38)) C (by omega);refine ⟨_,rfl,?_,ze (ze bR _) _⟩;have R2:=R.base (B':=w.heap.size) (D':=w.heap.size+1+1) (by simp) (by simp)
 simpa [z02] using R2
def Ls (w:World) (z zg:Nat) (ac ar:Option Addr) (cc cr:Nat) (t:T) (ag:Option Addr) (cg:Nat) (W:World):Prop :=
 Below w.heap.size w W/\(z09 W z (.slice ac t.cols.length cc) t.cols/\z05 W z (.slice ar t.rows.length cr) t.rows)/\z1K W zg (.slice ag (Z t).cells.length cg) (Z t).cells/\W.heap[w.heap.size]?=some (.cells #[.slice ac t.cols.length cc,int i64 t.head,int i64 t.foot,.slice ar t.rows.length cr,int i64 t.gap] 26)/\W.heap[w.heap.size+1]?=some (.cells #[int i64 (Z t).rows,int i64 (Z t).cols,.slice ag (Z t).cells.length cg] 38)
theorem Ls.kept {w W W':World} {z zg:Nat} {ac ar ag:Option Addr} {cc cr cg:Nat} {t:T} (h:Ls w z zg ac ar cc cr t ag cg W) (hb:Below W.heap.size W W'):Ls w z zg ac ar cc cr t ag cg W' :=
 ⟨h.1.trans (hb.mono h.1.size),⟨h.2.1.1.kept hb,h.2.1.2.kept hb⟩,h.2.2.1.kept hb,(hb.block _ (bL h.2.2.2.1)).trans h.2.2.2.1,(hb.block _ (bL h.2.2.2.2)).trans h.2.2.2.2⟩
theorem z26 {w:World} {g:Nat} {x0 x1 x2:Value} {t:TypeId} (h:w.heap[g]?=some (.cells #[x0,x1,x2] t)) :
  w.cell? ⟨g,0,none⟩=some x0/\w.cell? ⟨g,1,none⟩=some x1/\w.cell? ⟨g,2,none⟩=some x2:=⟨zf h,zf h,zf h⟩
theorem z9f (ac ar:Option Addr) (cc cr:Nat) (t:T) (hD:z0g t) (ag:Option Addr) (cg:Nat) (w:World) {z zg:Nat} (hc:z09 w z (.slice ac t.cols.length cc) t.cols) (hr:z05 w z (.slice ar t.rows.length cr) t.rows) (hg:z1K w zg (.slice ag (Z t).cells.length cg) (Z t).cells) (hok:zF t=true) :
  Calls prog 88 #[.agg #[.slice ac t.cols.length cc,int i64 t.head,int i64 t.foot,.slice ar t.rows.length cr,int i64 t.gap],.agg #[int i64 (Z t).rows,int i64 (Z t).cols,.slice ag (Z t).cells.length cg]] w λe w'=>∃ v,e=.returned v/\zq w' w.heap.size w'.heap.size v (zB t)/\Below w.heap.size w w':=by
 obtain ⟨_,C,hgc,hC,_⟩:=z35 hD
 have hC1:1<=C:=by
  have h1:(Z t).cols=z0x (max 1 (t.cols.length:Int)) (zU t):=(by rw [z2z hok]);have h2:=z3Z (zU t) (max 1 (t.cols.length:Int));omega
 have HCN:=O (z4k hgc);have HL:Hid (z1F t.cols (z22 t (z3i t)) C=zB t):=(by rw [Hid,zB,HCN.out]);have hNL:z0T (λx=>((z0E (zZ (zR t x)):Nat):Int)) t.gap (Z t).cells (z02 C) 4=z22 t (z3i t):=(by unfold z22;rw [HCN.out];rfl);have hlen:=z2K t (z3i t);rw [HCN.out] at hlen;have HUp:=O (z5v hD (λx=>(z8q t x).2));have HSd:=O (λk (hk:k < C)=>z9s (t:=t) (k:=k) (by rw [HCN.out];exact hk));have hzl:(z02 C).length=C:=(by simp [z02]);have hfl0:=zdl;have hfl1:=zkl;have hmx:prog.follows .mixedOrders=true:=(by kernel_rfl);have KN:=O (λW h1 h2 a0 c0 h3=>z7d true (λs=>((z0E (zZ s):Nat):Int)) (.inl ⟨rfl,rfl⟩) ac ar cc cr t hD ag cg W (z:=z) (zg:=zg) h1 h2 C hgc hC1 a0 c0 h3);have KZ:=O (λW=>zaw (Z t).rows (.slice ag (Z t).cells.length cg) C hC W);rw [<-hgc] at KZ;rw [hNL] at KN;generalize z22 t (z3i t)=L at KN HL hlen HUp
 have HP:Hid (Ls w z zg ac ar cc cr t ag cg ((w.alloc (.cells #[.slice ac t.cols.length cc,int i64 t.head,int i64 t.foot,.slice ar t.rows.length cr,int i64 t.gap] 26)).alloc (.cells #[int i64 (Z t).rows,int i64 (Z t).cols,.slice ag (Z t).cells.length cg] 38))):=by
  have K:=ze (ze (Below.refl w.heap.size w) (.cells #[.slice ac t.cols.length cc,int i64 t.head,int i64 t.foot,.slice ar t.rows.length cr,int i64 t.gap] 26)) (.cells #[int i64 (Z t).rows,int i64 (Z t).cols,.slice ag (Z t).cells.length cg] 38);refine ⟨K,⟨hc.kept K,hr.kept K⟩,hg.kept K,(bA (by simp)).trans (zj _ _),?_⟩;have:=zj (w.alloc (.cells #[.slice ac t.cols.length cc,int i64 t.head,int i64 t.foot,.slice ar t.rows.length cr,int i64 t.gap] 26)) (.cells #[int i64 (Z t).rows,int i64 (Z t).cols,.slice ag (Z t).cells.length cg] 38)
  simpa using this
 clear hNL hc hr hg hD hgc hok;go_enter func88,ntmps88;go_upto_region 1 with fail
 generalize (w.alloc (.cells #[.slice ac t.cols.length cc,int i64 t.head,int i64 t.foot,.slice ar t.rows.length cr,int i64 t.gap] 26)).alloc (.cells #[int i64 (Z t).rows,int i64 (Z t).cols,.slice ag (Z t).cells.length cg] 38)=W0 at HP |-;obtain ⟨b0,b1,b2,b3,b4⟩:=zL HP.out.2.2.2.1;obtain ⟨q0,q1,q2⟩:=z26 HP.out.2.2.2.2;have ht0:=(bL HP.out.2.2.2.1);have hg0:=(bL HP.out.2.2.2.2);go_cut [5] (λs W=>∃ a c D,s=.slice a C c/\Hid (zq W W0.heap.size D (.slice a C c) L)/\Hid (Below W0.heap.size W0 W)/\D<=W.heap.size)
 case first=>as_aux_lemma =>
  have HPd:=O (HP.out.kept (z0X bR));have HBd:=O (z0X (Below.refl W0.heap.size W0))
  go_region_with (first
   | (go_at_call 118;refine (KZ.out _).mono ?_;rintro e w1 ⟨v1,rfl,hr1,hb1⟩;obtain ⟨a1,c1,rfl⟩:=hr1.form;rw [hzl] at hr1 |-;have R1:=O hr1.at;have P1:=O (HPd.out.kept hb1);have B1:=O (zi HBd.out hb1);clear hr1 hb1;obtain ⟨p0,p1,p2,p3,p4⟩:=zL P1.out.2.2.2.1;obtain ⟨r0,r1,r2⟩:=z26 P1.out.2.2.2.2;have ht1:=(bL P1.out.2.2.2.1);have hg1:=(bL P1.out.2.2.2.2))
   | (go_at_call 117;refine (KN.out _ P1.out.2.1.2 P1.out.2.2.1 a1 c1 R1.out).mono ?_;rintro e w2 ⟨v2,rfl,hr2,hb2⟩;obtain ⟨a2,c2,rfl⟩:=hr2.form;rw [hlen] at hr2 |-;have R2:=O (hr2.base (B':=W0.heap.size) B1.out.size lR);have B2:=O (zi B1.out hb2);clear hr2 hb2))
  all_goals (go_wp2_with fail;go_meet;case rel=>exact ⟨_,_,_,rfl,R2,B2,lR⟩)
 case rest =>
  obtain ⟨a2,c2,D,rfl,HR0,HB0,hD0⟩:=hcut;clear b0 b1 b2 b3 b4 q0 q1 q2 hg0 KN KZ;go_wp2_with fail
  go_loopw [6] (λs W=>∃ k:Nat,s=int i64 k/\k<=C/\Hid (zq W W0.heap.size D (.slice a2 C c2) (z1F t.cols L k))/\Hid (Below W0.heap.size W0 W)/\D<=W.heap.size) (λs _=>C - (intOf s).toNat)
  case atStart=>exact ⟨0,rfl,nZ,HR0,HB0,hD0⟩
  case round =>
   clear HR0 HB0 hD0;obtain ⟨k,rfl,hk,HR,HB,hsz⟩:=hrel;by_cases hlt:k < C
   case neg =>
    obtain rfl:k=C:=by omega
    have HF:=O (HR.out.base (B':=w.heap.size) (D':=wr.heap.size) HP.out.1.size hsz);have HK:=O (HP.out.kept HB.out).1;go_wp2;go_ret;exact ⟨_,rfl,by rw [<-HL.out];exact HF.out,HK.out⟩
   have HPr:=O (HP.out.kept HB.out);obtain ⟨b0,b1,b2,b3,b4⟩:=zL HPr.out.2.2.2.1;have htr:=(bL HPr.out.2.2.2.1);have KS:=O (z5d ac ar cc cr t (k:Int) (by omega) wr HPr.out.2.1.1);obtain ⟨g,cap',e',hBg,hgD,hgw,hc1,hc2,hx,hf⟩:=HR.out.get (i:=k) (by rw [z1u];omega);rw [z1u,hlen] at e' hc1;simp only [Value.slice.injEq,true_and] at e';obtain ⟨rfl,rfl⟩:=e';unfold maxLen at hc2;have hxb:=HUp.out k (by omega);rw [z2J t.cols L k lR] at hx;have hsd:=HSd.out k hlt;have HYes:Hid ((sd t.cols k).1=1->z1F t.cols L (k+1)=(z1F t.cols L k).set k (max (L.getD k 0) (sd t.cols k).2)):=λh=>by rw [z1F,if_pos h,z2J t.cols L k lR]
   have HNo:Hid ((sd t.cols k).1 ≠ 1->z1F t.cols L (k+1)=z1F t.cols L k):=λh=>by rw [z1F,if_neg h]
   have KS3:=O (λW h=>z5d ac ar cc cr t (k:Int) (by omega) W (z:=z) h);generalize sd t.cols k=p at KS KS3 hsd HYes HNo;by_cases hp:p.1=1
   case neg =>
    have hpb:(p.1 == 1)=false:=(by simpa using hp);have HF:=O (HNo.out hp);clear HNo HYes hsd hp KS3;go_wp2_with fail
    refine KS.out.mono ?_;rintro e w3 ⟨rfl,hb3⟩;have HK3:=O hb3;clear hb3;go_wp2;go_roundw
    case rel=>exact ⟨k+1,by go_num,by omega,by rw [HF.out];exact HR.out.kept (λj h0 _ _=>HK3.out.block j h0),zi HB.out HK3.out,nT hsz HK3.out.size⟩
    case measure=>simp [intOf];omega
   have HF:=O (HYes.out hp);have hq:=hsd hp;clear HNo HYes hsd;obtain ⟨p1,p2⟩:=p;obtain rfl:p1=1:=hp;have hq:0<=p2/\p2<=60:=hq;dsimp only at KS HF KS3;go_wp2_with fail
   refine KS.out.mono ?_;rintro e W3 ⟨rfl,hb3⟩;have HB3:=O (zi HB.out hb3);have HR3:=O (HR.out.kept (λj h0 _ _=>hb3.block j h0));have HP3:=O (HPr.out.kept hb3);have hsz3:D<=W3.heap.size:=nT hsz hb3.size;clear hb3 HR HB hx hf b0 b1 b2 b3 b4 htr KS hsz HPr;go_upto_region 6 with fail
   obtain ⟨g3,cap3,e3,hBg3,hgD3,hgw3,_,_,hx3,hf3⟩:=HR3.out.get (i:=k) (by rw [z1u];omega);rw [z1u,hlen] at e3;simp only [Value.slice.injEq,Option.some.injEq,Addr.mk.injEq,and_true,true_and] at e3;have eg3:=e3.1;clear e3;subst eg3;rw [z2J t.cols L k lR] at hx3;have ht3:=(bL HP3.out.2.2.2.1);have hne:=z0H W3;have m0:=zm (a:=⟨w.heap.size,0,none⟩) ht3 (zf (p:=0) HP3.out.2.2.2.1);have m1:=zm (a:=⟨w.heap.size,1,none⟩) ht3 (zf (p:=1) HP3.out.2.2.2.1);have m2:=zm (a:=⟨w.heap.size,2,none⟩) ht3 (zf (p:=2) HP3.out.2.2.2.1);have m3:=zm (a:=⟨w.heap.size,3,none⟩) ht3 (zf (p:=3) HP3.out.2.2.2.1);have m4:=zm (a:=⟨w.heap.size,4,none⟩) ht3 (zf (p:=4) HP3.out.2.2.2.1);have m5:=zm (a:=⟨g,k,none⟩) hgw3 hx3;have HN:=O (λW (h:Below W3.heap.size W3 W)=>(HR3.out.kept (λj h0 _ _=>h.block j h0)).set (i:=k) (by rw [z1u];omega) (max (L.getD k 0) p2));rw [<-HF.out] at HN;have HLk:Hid (k < (z1F t.cols L k).length):=(by rw [Hid,z1u];omega);generalize L.getD k 0=y at hxb hx3 m5 HN;have KSq:=O (λ(p:BW W3)=>z4z (KS3.out p.u (HP3.out.kept p.h).2.1.1));have KM:=O (λ(p:BW W3)=>z1U (z34 y p2 p.u));clear hx3 hf3 HF KS3;refine z1g 12 hmx (by rfl) (by rfl) (by kernel_rfl) (by kernel_rfl) ?_;simp only [List.take_succ_cons,List.take_zero];repeat (go_big_quiet_step (first | (go_at_call 119;refine KSq.out _) | (go_at_call 82;refine KM.out _)))
   refine wpQuiet_nil ?_;intro W5 hw';obtain ⟨⟨Wx,hW5⟩,hw''⟩:=hw';subst hw'';have HN5:=O (HN.out _ hW5);have HB5:=O (z2s (zi HB3.out hW5) (p:=⟨g,k,none⟩) hBg (int i64 (max y p2)));have hf5:=(HR3.out.kept (λj h0 _ _=>hW5.block j h0)).get (i:=k) HLk.out;obtain ⟨g5,cap5,e5,_,_,hgw5,_,_,hx5,hf5⟩:=hf5;simp only [Value.slice.injEq,Option.some.injEq,Addr.mk.injEq,and_true] at e5;have eg:=e5.1;clear e5;subst eg;have hsz5:D<=(W5.setCell ⟨g,k,none⟩ (int i64 (max y p2))).heap.size:=(by rw [z31];have:=hW5.size;omega);clear m0 m1 m2 m3 m4 m5 HN HB3 HR3 hW5 hne KSq KM;rw [if_pos (by rfl)];go_simp;go_wp2;go_roundw
   case rel=>exact ⟨k+1,by go_num,by omega,HN5,HB5,hsz5⟩
   case measure=>simp [intOf];omega
end
section
open Go.RowKit
theorem zdx (w:World) (B:Nat) (hB:B<=w.heap.size):zq (w.alloc (.cells #[] 3)) B (w.alloc (.cells #[] 3)).heap.size (.slice (some ⟨w.heap.size,0,none⟩) 0 0) [] :=
 .inr ⟨w.heap.size,0,#[],rfl,hB,by simp,zj _ _,lR,nZ,rfl,λi hi=>absurd hi (Nat.not_lt_zero _)⟩
theorem zhn (ac ar:Option Addr) (cc cr:Nat) (t:T) (hD:z0g t) (hok:zF t=true) (w:World) {z:Nat} (hr:z05 w z (.slice ar t.rows.length cr) t.rows) :
  Calls prog 48 #[.agg #[.slice ac t.cols.length cc,int i64 t.head,int i64 t.foot,.slice ar t.rows.length cr,int i64 t.gap]] w λe w'=>∃ ag cg,e=.returned (.agg #[int i64 (Z t).rows,int i64 (Z t).cols,.slice ag (Z t).cells.length cg])/\z1K w' w.heap.size (.slice ag (Z t).cells.length cg) (Z t).cells/\Below w.heap.size w w':=by
 refine (zic ac ar cc cr t (z3S hok hD) w hr).mono ?_;rintro e w' ⟨vg,rfl,hO,hb⟩;have hgk:=z73 hD;rw [z2z hok] at hgk |-;obtain ⟨ag,cg,rfl⟩:=z5L hO;exact ⟨ag,cg,rfl,hO.at hgk,hb⟩
theorem zkr {t:T} (hD:z0g t) (hok:zF t=true) {width:Int} (hw:0<=width/\width<=300):UpB (z08 t width) 5000:=by
 obtain ⟨h1,h2,h3⟩:=zbT hD hok hw;have hup:=z44 hD;have hll:=z1m t;obtain ⟨hC1,hC88,_,_,_,_⟩:=z49 hD hok
 have hg:0<=t.gap/\t.gap<=3:=by
  simp only [zF,zM,Bool.and_eq_true,decide_eq_true_eq] at hok;exact hok.2.2.1
 have hgg:0<=t.gap * ((zG t:Int) - 1):=Int.mul_nonneg hg.1 (by omega)
 have hpos:∀ i,i < (z08 t width).length->0<=(z08 t width).getD i 0:=λi hi=>by
  have a:=h3 i (by omega);have b:=hup i (by omega);omega
 intro i hi;refine ⟨hpos i hi,?_⟩
 split at h2
 ·have hs:(z08 t width).sum=(zB t).sum:=(by omega);by_cases hlt:(zB t).getD i 0 < (z08 t width).getD i 0
  ·have:=zdf (a:=zB t) (b:=z08 t width) (by omega) (λj hj=>(h3 j (by omega)).1) i (by omega) hlt;omega
  ·have:=hup i (by omega);omega
 ·have:=zao hpos hi;omega
def zfx (t:T) (width:Int):Int:=z1P (z5S t width) t.gap
theorem zb7 {t:T} (hD:z0g t) (hok:zF t=true) {width:Int} (hw:0<=width/\width<=300) :
  z5S t width=z08 t width/\(z08 t width).length=zG t/\zfx t width=(z08 t width).sum+t.gap * ((zG t:Int) - 1)/\(z08 t width).all wtB=true/\0<=(z08 t width).sum/\(z08 t width).sum<=1000000/\0<=t.gap * ((zG t:Int) - 1)/\t.gap * ((zG t:Int) - 1)<=1000 /\
  zfx t width=(if width < z1P (zB t) t.gap\/z8v t=true then z1P (zB t) t.gap else width):=by
 obtain ⟨hC1,hC2,ea,_,_,_⟩:=z49 hD hok;obtain ⟨f1,f2,_⟩:=zbT hD hok hw;have hup:=zkr hD hok hw;have hall:(z08 t width).all wtB=true:=z6w (λi hi=>by have:=hup i hi;omega);have hs:=z2G hall;have hsb:=z5t (l:=z08 t width) (B:=5000) (λx hx=>hup.mem hx)
 have hg:0<=t.gap/\t.gap<=3:=by
  simp only [zF,zM,Bool.and_eq_true,decide_eq_true_eq] at hok;exact hok.2.2.1
 have hg1:0<=t.gap * ((zG t:Int) - 1):=Int.mul_nonneg hg.1 (by omega);have hg2:t.gap * ((zG t:Int) - 1)<=3 * 87:=Int.mul_le_mul hg.2 (by omega) (by omega) (by omega);have e0:z5S t width=z08 t width:=(by unfold z5S;rw [if_pos (by rw [hok,z4E hw.1 hw.2];rfl)])
 have e1:zfx t width=(z08 t width).sum+t.gap * ((zG t:Int) - 1):=by
  unfold zfx;rw [e0,z3k (by omega),f1,z32 (by omega)]
 refine ⟨e0,f1,e1,hall,hs.1,by omega,hg1,by omega,?_⟩;rw [e1,f2,ea]
end
end Go.Proofs.YtggmjiddadjilahGreat
