/-
  PROVED HERE: the program's toParts: parts get what they want, as far as that is there; nothing else that was in memory is turned. Also: 7 more texts of the same proof.
-/
import Derived.Test.YtggmjiddadjilalGreatB31
import Derived.Test.YtggmjiddadjilalGreatB11
set_option maxRecDepth 1000000
set_option maxHeartbeats 40000000
namespace Go.Proofs.YtggmjiddadjilalGreat
open Value (int)
open IntKind (i64)
section
open Go.RowKit Go.BigFrame
theorem ze8 {t:T} {width:Int} {L:List Int} {i:Nat} (hi:i < (z1C t width L).length) (hP:zn t 2 i=false):(z1C t width L).getD i 0=0:=by
 rw [z42 (by rw [z3e] at hi;exact hi),if_neg (by rw [hP];simp)]
theorem ze9 {t:T} {j:Nat} (h:zn t 2 j=true):j < t.cols.length/\sd t.cols j=t.cols.getD j (0,0):=by
 by_cases hj:j < t.cols.length
 ·exact ⟨hj,z7t hj⟩
 ·rw [zn,z9g (z25 (by omega))] at h;simp at h
theorem zaP (w0:World) (sb:Nat) (ac ar:Option Addr) (cc cr:Nat) (t:T) (width:Int) (g cap C D:Nat) (left:Int) (L:List Int) {z:Nat} (hc:zY w0 z (.slice ac t.cols.length cc) t.cols) (hC:C<=88) (hCt:C=zz t) (hLC:L.length=C) (hLs:L.all wtB=true) (hg0:w0.heap.size<=g) (hgD:g < D) (hDs:D<=sb) (hw:0<=width/\width<=300) (hok:zt left (z1C t width L)=true) (w:World) (h:SpS w0 sb ac ar cc cr t width g cap C D left L w) :
  Calls Tryz.prog 68 #[.pointer (some ⟨sb,0,none⟩)] w fun e w'=>e=.returned (.tuple #[])/\SpS w0 sb ac ar cc cr t width g cap C D (z23 left (z1C t width L)) (z1d L (z0m left (z1C t width L))) w'/\Bk2 g sb w w':=by
 have hmx:Tryz.prog.follows .mixedOrders=true:=(by kernel_rfl);obtain ⟨ok1,len1,all1,sum1,give1⟩:=z7N (P:=zn t 2) (z3e t width L) hok (fun i hi hP=>ze8 hi hP);rw [hLC] at ok1 len1 all1 sum1 give1;have HTl:=Hd (z1n (z1C t width L) (zn t 2) C);have HTg:=Hd (fun k (hk:k < (zh (zn t 2) C).length)=>z2L (l:=z1C t width L) hk);have HW:=Hd (fun j (hj:j < C) (hP:zn t 2 j=true)=>(z42 (t:=t) (width:=width) (l:=L) (k:=j) (by omega)).trans (if_pos hP));have HKd:=Hd (fun j (hj:j < C)=>z6t (t:=t) (k:=j) (by omega));have HLt:=Hd (fun k (hk:k < (zh (zn t 2) C).length)=>z6w hk);have hnl:=z2V (zn t 2) C;have HC:=Hd hc;have H:=Hd h;have KO:=Hd (z5J sb ac ar cc cr t width g cap C left 2 hC w h.sp (hc.kept h.bel));have hmk:=z4R (zh (zn t 2) C).length (by omega);have HG1:=Hd give1;have HSum:=Hd sum1;have HA1:=Hd all1;have HLn:=Hd len1;have hleft:=(z09 hok).1;have HOk:=Hd ok1;generalize zh (zn t 2) C=js at *;generalize hT:zP (z1C t width L) (zn t 2) C=T at *;clear h hc give1 sum1 all1 len1 ok1 hok hT;have hTl:=HTl.out;go_enter Tryz.func68,Tryz.ntmps68;go_wp2_with fail
 refine KO.out.mono ?_;rintro e w1 ⟨v1,rfl,hr1,hb1⟩;obtain ⟨a1,c1,rfl⟩:=hr1.form;rw [z1r] at hr1 |-;have HR1:=Hd hr1;have HS1:=Hd (H.out.kept hb1);have HB1:=Hd hb1;have hz1:=hb1.size;clear hr1 hb1 KO;have hn2:(w1.alloc (.cells (z0G js.length) 3)).heap.size=w1.heap.size+1:=(by simp);have HN:=Hd (z3L w1 js.length (by omega));have hA2:=ze (Below.refl w1.heap.size w1) (.cells (z0G js.length) 3);go_upto_region 2 with fail
 have HS2:=Hd (HS1.out.kept hA2);have HR2:=Hd (HR1.out.kept (w':=w1.alloc (.cells (z0G js.length) 3)) (fun j h0 _ _=>hA2.block j h0));have HB2:=Hd (zg HB1.out hA2);have hD2:D<=w1.heap.size:=(by have:=HS1.out.sp.lt;omega);have hsb1:sb < w1.heap.size:=HS1.out.sp.lt;have hsbw:sb < w.heap.size:=H.out.sp.lt;have hw0:w0.heap.size<=w1.heap.size:=HS1.out.bel.size;clear HS1 HR1 HB1 hA2 H;generalize w1.alloc (.cells (z0G js.length) 3)=W2 at HN HS2 HR2 HB2 hn2 |-;generalize w1.heap.size=gb at HN HR2 hn2 hD2 hsb1 hz1 hw0 |-;go_wp2_with fail
 go_loopw [16] (fun s W=>∃ k:Nat,s=int i64 k/\k<=js.length/\Hid (zH W gb (gb+1) (.slice (some ⟨gb,0,none⟩) js.length js.length) (z3u T k))/\Hid (Bk gb W2 W)) (fun s _=>js.length - (intOf s).toNat)
 case atStart=>exact ⟨0,rfl,Nat.zero_le _,by rw [z7L,hTl];exact HN,Bk.refl _ _⟩
 case round =>
  clear HN;obtain ⟨k,rfl,hk,HF,HB⟩:=hrel;have HS:=Hd (HS2.out.bk HB.out hw0 (by omega) hD2);have HR:=Hd (HR2.out.kept (fun j h0 _ h2=>HB.out.block j h0 (by omega)));by_cases hlt:k < js.length
  case pos =>
   obtain ⟨b1,c1',e1,hb1B,_,hb1w,hc11,hc12,hx1,_⟩:=HR.out.get (i:=k) (by rw [z1r];exact hlt);rw [z1r] at e1 hc11;rw [z72 hlt] at hx1;simp only [Value.slice.injEq,true_and] at e1;obtain ⟨rfl,rfl⟩:=e1;obtain ⟨hjC,hjP⟩:=HLt.out k hlt;have hTk:=HTg.out k hlt;have hjj:js[k]=js.getD k 0:=(by simp [List.getD,hlt]);rw [hjj] at hTk;rw [HW.out _ hjC hjP] at hTk;obtain ⟨hjc,hsd⟩:=ze9 hjP;have hkd:=HKd.out _ hjC;have hk2:(sd t.cols (js.getD k 0:Nat)).1=2:=(by simpa [zn] using hjP);rw [hsd] at hTk hkd hk2;obtain ⟨b,off,cap2,e2,hc21,hc22,hbl,hy0,hy1⟩:=At.get (HC.out.kept HS.out.bel) hjc;simp only [Value.slice.injEq,true_and] at e2;obtain ⟨rfl,rfl⟩:=e2;obtain ⟨g',cap',e3,_,_,hgw,hc31,hc32,hx3,_⟩:=HS.out.row.get (i:=js.getD k 0) (by omega);rw [hLC] at e3 hc31;simp only [Value.slice.injEq,Option.some.injEq,Addr.mk.injEq,and_true,true_and] at e3;obtain ⟨rfl,rfl⟩:=e3;have hxs:=z3v hLs (js.getD k 0);generalize js.getD k 0=j at *;generalize t.cols.getD j (0,0)=p at *;generalize L.getD j 0=x at *;have hp2:1<=p.2/\p.2<=100:=(by omega);have hm0:0<=width * p.2:=Int.mul_nonneg hw.1 (by omega);have hm1:width * p.2<=30000:=Int.le_trans (Int.mul_le_mul hw.2 hp2.2 (by omega) (by omega)) (by omega);have hq:Int.tdiv (width * p.2) 100=width * p.2 / 100:=Int.tdiv_eq_ediv_of_nonneg hm0;unfold maxLen at hc12 hc22 hc32;have HFx:=Hd (z7M (l:=T) (k:=k) (by omega));rw [hTk] at HFx;have hne:=z1e wr;have m0:=zj (a:=⟨sb,5,none⟩) HS.out.sp.lt (zf (p:=5) HS.out.sp);have m1:=zj (a:=⟨sb,0,none⟩) HS.out.sp.lt (zf (p:=0) HS.out.sp);have m2:=zj hbl hy1;have HX:=Hd (And.intro hgw hx3);clear hy0 hy1 hx3 hTk hsd hkd hk2 hjP;go_upto_region 5 with fail
   clear hx1;refine z0d hmx (by kernel_rfl) ?_;repeat (go_big_quiet_step (fail))
   refine wpQuiet_nil ?_;intro W5 hw';obtain ⟨⟨Wx,hW5⟩,hw''⟩:=hw';subst hw'';have s6:W5.cell? ⟨sb,6,none⟩=some (.slice (some ⟨g,0,none⟩) C cap):=zf (p:=6) (HS.out.sp.kept hW5);have gx:W5.cell? ⟨g,j,none⟩=some (int i64 x):=(hW5.cell (p:=⟨g,j,none⟩) HX.out.1).trans HX.out.2;have HF5:=Hd (HF.out.kept (fun i h0 _ _=>hW5.block i h0));have HB5:=Hd (HB.out.trans (Bk.of_below hW5));obtain ⟨g5,cap5,e5,_,_,hgw5,_,_,hx5,hf5⟩:=HF5.out.get (i:=k) (by rw [z52 T (by omega)];omega);simp only [Value.slice.injEq,Option.some.injEq,Addr.mk.injEq,and_true] at e5;have eg:=e5.1;clear e5;subst eg;have HF6:=Hd (HF5.out.set (i:=k) (by rw [z52 T (by omega)];omega) (max 0 (width * p.2 / 100 - x)));rw [<-HFx.out] at HF6;have hyb:0<=width * p.2 / 100/\width * p.2 / 100<=300:=(by omega);generalize width * p.2 / 100=y at *;clear m0 m1 m2 hne hW5 HX HF HB HF5 HFx;go_wp2;go_roundw
   case rel=>exact ⟨k+1,by go_num,by omega,HF6,HB5.out.set (p:=⟨gb,k,none⟩) (.inl rfl) _⟩
   case measure=>simp [intOf];omega
  case neg =>
   obtain rfl:k=js.length:=by omega
   have s7:wr.cell? ⟨sb,7,none⟩=some (int i64 left):=zf (p:=7) HS.out.sp;have HF':Hid (zH wr gb (gb+1) (.slice (some ⟨gb,0,none⟩) js.length js.length) T):=(by rw [<-z90 T,hTl];exact HF);have KU:=Hd (z5V left _ T HOk.out wr HF'.out.at);go_wp2_with fail
   refine KU.out.mono ?_;rintro e w5 ⟨v5,rfl,hr5,hb5⟩;obtain ⟨a5,c5,rfl⟩:=hr5.form;have hz5:=hb5.size;have hzr:=HB.out.size;have KG:=Hd (z5K sb ac ar cc cr t width g cap C left L (z0m left T) js (.slice a1 js.length c1) (.slice a5 (z0m left T).length c5) w0.heap.size D w.heap.size hLC (fun k hk=>(HLt.out k hk).1) (by omega) HLn.out hLs HA1.out hleft hgD hDs hsbw w5 (HS.out.kept hb5).sp (HS.out.kept hb5).row ((HR.out.kept (fun j h0 _ _=>hb5.block j h0)).base (Nat.le_refl _) (by omega)) (hr5.base (by omega) (Nat.le_refl _)));have HB6:=Hd ((HB2.out.trans (HB.out.below (n:=w.heap.size) (by omega) (by omega))).trans (hb5.mono (by omega)));have HL6:=Hd ((HS.out.kept hb5).bel);clear KU s7;go_wp2_with fail
   refine KG.out.mono ?_;rintro e w6 ⟨rfl,hs6,hr6,hb6⟩;have HF6:=Hd (SpS.mk (HL6.out.trans (hb6.below HL6.out.size hg0 (by omega))) hs6 hr6);rw [HSum.out,HG1.out] at HF6;have HK6:=Hd ((Bk2.of_below HB6.out).trans hb6);clear hs6 hr6 hb6;go_wp2
   go_end0
   exact ⟨rfl,HF6.out,HK6.out⟩
theorem zg2 (s:ByteArray) (W:World) (h:s.size<=maxLen):Calls Tryz.prog 91 #[.string s] W fun e w'=>e=.returned (int i64 ((z41 s:Nat):Int))/\Below W.heap.size W w':=(zaQ s h W).mono (fun _ _ ⟨h1,h2⟩=>⟨h1,h2 ▸ Below.refl _ _⟩)
theorem zaR (ac ar:Option Addr) (cc cr:Nat) (t:T) (hD:z0b t) (w:World) {z:Nat} (hc:zY w z (.slice ac t.cols.length cc) t.cols) (hr:zJ w z (.slice ar t.rows.length cr) t.rows) :
  Calls Tryz.prog 87 #[.agg #[.slice ac t.cols.length cc,int i64 t.head,int i64 t.foot,.slice ar t.rows.length cr,int i64 t.gap]] w fun e w'=>∃ v,e=.returned v/\zH w' w.heap.size w'.heap.size v (z2n t)/\Below w.heap.size w w':=by
 obtain ⟨_,C,hgc,hC,_⟩:=z3n hD;have HCN:=Hd (z4y hgc);have HL:Hid (z2U (z26 t (z4n t)) (zu t) C=z2n t):=(by rw [Hid,z2n,HCN.out]);have hNL:z1l (fun x=>((z41 (zL t x):Nat):Int)) t.gap (gOf t).cells (z0u C) 4=z26 t (z4n t):=(by unfold z26;rw [HCN.out];rfl);have hlen:=z2i t (z4n t);have hlen2:=z1b t;rw [HCN.out] at hlen hlen2;have HUp:=Hd (z5A hD (fun x=>(z9U t x).2));have HUp2:=Hd (z2K hD);have HK0:=Hd (ze (Below.refl w.heap.size w) (.cells #[.slice ac t.cols.length cc,int i64 t.head,int i64 t.foot,.slice ar t.rows.length cr,int i64 t.gap] 26));have HX:=Hd (zk w (.cells #[.slice ac t.cols.length cc,int i64 t.head,int i64 t.foot,.slice ar t.rows.length cr,int i64 t.gap] 26));have HT:=Hd (And.intro (hc.kept HK0.out) (hr.kept HK0.out));have hs1:(w.alloc (.cells #[.slice ac t.cols.length cc,int i64 t.head,int i64 t.foot,.slice ar t.rows.length cr,int i64 t.gap] 26)).heap.size=w.heap.size+1:=(by simp);have KE:=Hd (fun W h1 h2=>z5k _ (.inr rfl) (fun s=>((z41 s:Nat):Int)) (fun s=>by have:=z8I s;omega) zg2 ac ar cc cr t hD W (z:=z) h1 h2 C hgc);have KL:=Hd (fun W h1 h2=>z3t ac ar cc cr t hD W (z:=z) h1 h2);rw [hNL] at KE;generalize z26 t (z4n t)=L at KE HL hlen HUp;generalize zu t=M at KL HL hlen2 HUp2;clear hNL hc hr hD hgc;go_enter Tryz.func87,Tryz.ntmps87;go_upto_region 1 with fail
 generalize w.alloc (.cells #[.slice ac t.cols.length cc,int i64 t.head,int i64 t.foot,.slice ar t.rows.length cr,int i64 t.gap] 26)=W1 at HK0 HX HT hs1 |-;obtain ⟨b0,b1,b2,b3,b4⟩:=zy HX.out;go_wp2_with fail
 refine (KE.out _ HT.out.1 HT.out.2).mono ?_;rintro e w2 ⟨v2,rfl,hR2,hb2⟩;obtain ⟨a2,c2,rfl⟩:=hR2.form;rw [hlen] at hR2 |-;have HR2:=Hd hR2;have HB2:=Hd hb2;have HX2:=Hd ((hb2.block w.heap.size (by omega)).trans HX.out);have hz2:w.heap.size+1<=w2.heap.size:=(by have:=hb2.size;omega);clear hR2 hb2 b0 b1 b2 b3 b4 KE;obtain ⟨b0,b1,b2,b3,b4⟩:=zy HX2.out;have ht2:w.heap.size < w2.heap.size:=(by omega);go_wp2_with fail
 refine (KL.out _ (HT.out.1.kept HB2.out) (HT.out.2.kept HB2.out)).mono ?_;rintro e w3 ⟨v3,rfl,hR3,hb3⟩;obtain ⟨a3,c3,rfl⟩:=hR3.form;rw [hlen2] at hR3 |-;have HR3:=Hd (HR2.out.kept (fun j h0 _ _=>hb3.block j h0));have HM3:=Hd hR3;have HB3:=Hd (zg HB2.out hb3);have hz3:w2.heap.size<=w3.heap.size:=hb3.size;clear hR3 hb3 HR2 HB2 HX2 b0 b1 b2 b3 b4 ht2 KL;go_wp2_with fail
 go_loopw [11] (fun s W=>∃ k:Nat,s=int i64 k/\k<=C/\Hid (zH W W1.heap.size w2.heap.size (.slice a2 C c2) (z2U L M k))/\Hid (zH W w2.heap.size w3.heap.size (.slice a3 C c3) M)/\Hid (Below W1.heap.size W1 W)/\w3.heap.size<=W.heap.size) (fun s _=>C - (intOf s).toNat)
 case atStart=>exact ⟨0,rfl,Nat.zero_le _,HR3,HM3,HB3,Nat.le_refl _⟩
 case round =>
  clear HR3 HM3 HB3;obtain ⟨k,rfl,hk,HR,HM,HB,hsz⟩:=hrel;by_cases hlt:k < C
  case neg =>
   obtain rfl:k=C:=by omega
   have HF:=Hd (HR.out.base (B':=w.heap.size) (D':=wr.heap.size) (by omega) (by omega));have HK:=Hd (HK0.out.trans (HB.out.mono (by omega)));go_wp2;go_ret;exact ⟨_,rfl,by rw [<-HL.out];exact HF.out,HK.out⟩
  obtain ⟨g,cap',e',hBg,hgD,hgw,hc1,hc2,hx,hf⟩:=HR.out.get (i:=k) (by rw [z3d];omega);rw [z3d,hlen] at e' hc1;simp only [Value.slice.injEq,true_and] at e';obtain ⟨rfl,rfl⟩:=e';obtain ⟨g3,cap3,e3,hBg3,hgD3,hgw3,hc13,hc23,hy,_⟩:=HM.out.get (i:=k) (by omega);rw [hlen2] at e3 hc13;simp only [Value.slice.injEq,true_and] at e3;obtain ⟨rfl,rfl⟩:=e3;unfold maxLen at hc2 hc23;rw [z8J L M k (Nat.le_refl _)] at hx;have hxb:=HUp.out k (by omega);have hyb:=HUp2.out k (by omega);have HN:=Hd (HR.out.set (i:=k) (by rw [z3d];omega) (max (L.getD k 0) (M.getD k 0)));have HE:Hid (z2U L M (k+1)=(z2U L M k).set k (max (L.getD k 0) (M.getD k 0))):=rfl;rw [<-HE.out] at HN;have HM2:=Hd (HM.out.kept (w':=wr.setCell ⟨g,k,none⟩ (int i64 (max (L.getD k 0) (M.getD k 0)))) (fun i _ h1 _=>Below.heap_setCell _ _ _ _ (fun e=>by have e':i=g:=e;omega)));have HB2:=Hd (zw HB.out (p:=⟨g,k,none⟩) hBg (int i64 (max (L.getD k 0) (M.getD k 0))));have hsz2:w3.heap.size<=(wr.setCell ⟨g,k,none⟩ (int i64 (max (L.getD k 0) (M.getD k 0)))).heap.size:=(by rw [z2c];exact hsz);generalize L.getD k 0=x at hx hxb HN HM2 HB2 hsz2;generalize M.getD k 0=y at hy hyb HN HM2 HB2 hsz2;clear HE;go_wp2;go_roundw
  case rel=>exact ⟨k+1,by go_num,by omega,HN,HM2,HB2,hsz2⟩
  case measure=>simp [intOf];omega
theorem zea {t:T} {L:List Int} {i:Nat} (hi:i < (z1D t L).length) (hP:zn t 0 i=false):(z1D t L).getD i 0=0:=by
 rw [z43 (by rw [z2M] at hi;exact hi),if_neg (by rw [hP];simp)]
theorem zal (w0:World) (sb:Nat) (ac ar:Option Addr) (cc cr:Nat) (t:T) (width:Int) (g cap C D:Nat) (left:Int) (L:List Int) (hDr:z0b t) {z:Nat} (hc:zY w0 z (.slice ac t.cols.length cc) t.cols) (hr:zJ w0 z (.slice ar t.rows.length cr) t.rows) (hge:∀ j,j < C->zn t 0 j=true->L.getD j 0<=(z2n t).getD j 0) (hC:C<=88) (hCt:C=zz t) (hLC:L.length=C) (hLs:L.all wtB=true) (hg0:w0.heap.size<=g) (hgD:g < D) (hDs:D<=sb) (hok:zt left (z1D t L)=true) (w:World) (h:SpS w0 sb ac ar cc cr t width g cap C D left L w) :
  Calls Tryz.prog 69 #[.pointer (some ⟨sb,0,none⟩)] w fun e w'=>e=.returned (.tuple #[])/\SpS w0 sb ac ar cc cr t width g cap C D (z23 left (z1D t L)) (z1d L (z0m left (z1D t L))) w'/\Bk2 g sb w w':=by
 have hmx:Tryz.prog.follows .mixedOrders=true:=(by kernel_rfl);obtain ⟨ok1,len1,all1,sum1,give1⟩:=z7N (P:=zn t 0) (z2M t L) hok (fun i hi hP=>zea hi hP);rw [hLC] at ok1 len1 all1 sum1 give1;have HTl:=Hd (z1n (z1D t L) (zn t 0) C);have HTg:=Hd (fun k (hk:k < (zh (zn t 0) C).length)=>z2L (l:=z1D t L) hk);have HW:=Hd (fun j (hj:j < C) (hP:zn t 0 j=true)=>(z43 (t:=t) (l:=L) (k:=j) (by omega)).trans (if_pos hP));have HGe:=Hd hge;have HWu:=Hd (z6Z hDr);have HWl:Hid ((z2n t).length=C):=(by rw [Hid,z4Y,hCt]);have KWi:=Hd (zaR ac ar cc cr t hDr w (hc.kept h.bel) (hr.kept h.bel));have HLt:=Hd (fun k (hk:k < (zh (zn t 0) C).length)=>z6w hk);have hnl:=z2V (zn t 0) C;have HC:=Hd hc;have H:=Hd h;have KO:=Hd (fun W (h:SpS w0 sb ac ar cc cr t width g cap C D left L W)=>z5J sb ac ar cc cr t width g cap C left 0 hC W h.sp (hc.kept h.bel));have hmk:=z4R (zh (zn t 0) C).length (by omega);have HG1:=Hd give1;have HSum:=Hd sum1;have HA1:=Hd all1;have HLn:=Hd len1;have hleft:=(z09 hok).1;have HOk:=Hd ok1;generalize zh (zn t 0) C=js at *;generalize hT:zP (z1D t L) (zn t 0) C=T at *;clear h hc hr hge give1 sum1 all1 len1 ok1 hok hT;have hTl:=HTl.out;have s0:w.cell? ⟨sb,0,none⟩=some (.slice ac t.cols.length cc):=zf (p:=0) H.out.sp;have s1:w.cell? ⟨sb,1,none⟩=some (int i64 t.head):=zf (p:=1) H.out.sp;have s2:w.cell? ⟨sb,2,none⟩=some (int i64 t.foot):=zf (p:=2) H.out.sp;have s3:w.cell? ⟨sb,3,none⟩=some (.slice ar t.rows.length cr):=zf (p:=3) H.out.sp;have s4:w.cell? ⟨sb,4,none⟩=some (int i64 t.gap):=zf (p:=4) H.out.sp;go_enter Tryz.func69,Tryz.ntmps69;go_wp2_with fail
 refine KWi.out.mono ?_;rintro e wa ⟨va,rfl,hra,hba⟩;obtain ⟨aw,cw,rfl⟩:=hra.form;rw [HWl.out] at hra |-;have HRa:=Hd hra;have Ha:=Hd (H.out.kept hba);have HBa:=Hd hba;have hza:=hba.size;clear hra hba KWi s0 s1 s2 s3 s4;go_wp2_with fail
 refine (KO.out _ Ha.out).mono ?_;rintro e w1 ⟨v1,rfl,hr1,hb1⟩;obtain ⟨a1,c1,rfl⟩:=hr1.form;rw [z1r] at hr1 |-;have HRb:=Hd (HRa.out.kept (fun j h0 _ _=>hb1.block j h0));have HR1:=Hd hr1;have HS1:=Hd (Ha.out.kept hb1);have HB1:=Hd (zg HBa.out hb1);have hz1:=hb1.size;clear hr1 hb1 KO HRa Ha HBa;have hn2:(w1.alloc (.cells (z0G js.length) 3)).heap.size=w1.heap.size+1:=(by simp);have HN:=Hd (z3L w1 js.length (by omega));have hA2:=ze (Below.refl w1.heap.size w1) (.cells (z0G js.length) 3);go_upto_region 3 with fail
 have HRc:=Hd (HRb.out.kept (w':=w1.alloc (.cells (z0G js.length) 3)) (fun j h0 _ _=>hA2.block j h0));have hwa:wa.heap.size<=w1.heap.size:=hz1;have HS2:=Hd (HS1.out.kept hA2);have HR2:=Hd (HR1.out.kept (w':=w1.alloc (.cells (z0G js.length) 3)) (fun j h0 _ _=>hA2.block j h0));have HB2:=Hd (zg HB1.out hA2);have hD2:D<=w1.heap.size:=(by have:=HS1.out.sp.lt;omega);have hsb1:sb < w1.heap.size:=HS1.out.sp.lt;have hsbw:sb < w.heap.size:=H.out.sp.lt;have hw0:w0.heap.size<=w1.heap.size:=HS1.out.bel.size;clear HS1 HR1 HB1 hA2 H HRb;generalize w1.alloc (.cells (z0G js.length) 3)=W2 at HN HS2 HR2 HB2 HRc hn2 |-;generalize w1.heap.size=gb at HN HR2 hn2 hD2 hsb1 hz1 hw0 hwa |-;go_wp2_with fail
 go_loopw [21] (fun s W=>∃ k:Nat,s=int i64 k/\k<=js.length/\Hid (zH W gb (gb+1) (.slice (some ⟨gb,0,none⟩) js.length js.length) (z3u T k))/\Hid (Bk gb W2 W)) (fun s _=>js.length - (intOf s).toNat)
 case atStart=>exact ⟨0,rfl,Nat.zero_le _,by rw [z7L,hTl];exact HN,Bk.refl _ _⟩
 case round =>
  clear HN;obtain ⟨k,rfl,hk,HF,HB⟩:=hrel;have HS:=Hd (HS2.out.bk HB.out hw0 (by omega) hD2);have HR:=Hd (HR2.out.kept (fun j h0 _ h2=>HB.out.block j h0 (by omega)));by_cases hlt:k < js.length
  case pos =>
   obtain ⟨b1,c1',e1,hb1B,_,hb1w,hc11,hc12,hx1,_⟩:=HR.out.get (i:=k) (by rw [z1r];exact hlt);rw [z1r] at e1 hc11;rw [z72 hlt] at hx1;simp only [Value.slice.injEq,true_and] at e1;obtain ⟨rfl,rfl⟩:=e1;obtain ⟨hjC,hjP⟩:=HLt.out k hlt;have hTk:=HTg.out k hlt;have hjj:js[k]=js.getD k 0:=(by simp [List.getD,hlt]);rw [hjj] at hTk;rw [HW.out _ hjC hjP] at hTk;have hgej:=HGe.out _ hjC hjP;obtain ⟨b2,c2',e2,_,_,hb2w,hc21,hc22,hx2,_⟩:=(HRc.out.kept (fun j h0 _ h2=>HB.out.block j h0 (by omega))).get (i:=js.getD k 0) (by rw [HWl.out];exact hjC);rw [HWl.out] at e2 hc21;simp only [Value.slice.injEq,true_and] at e2;obtain ⟨rfl,rfl⟩:=e2;have hws:=HWu.out (js.getD k 0) (by rw [HWl.out];exact hjC);obtain ⟨g',cap',e3,_,_,hgw,hc31,hc32,hx3,_⟩:=HS.out.row.get (i:=js.getD k 0) (by omega);rw [hLC] at e3 hc31;simp only [Value.slice.injEq,Option.some.injEq,Addr.mk.injEq,and_true,true_and] at e3;obtain ⟨rfl,rfl⟩:=e3;have hxs:=z3v hLs (js.getD k 0);generalize js.getD k 0=j at *;generalize L.getD j 0=x at *;generalize (z2n t).getD j 0=y at *;rw [show max 0 (y - x)=y - x by omega] at hTk;unfold maxLen at hc12 hc22 hc32;have HFx:=Hd (z7M (l:=T) (k:=k) (by omega));rw [hTk] at HFx;have hne:=z1e wr;have m0:=zj (a:=⟨sb,6,none⟩) HS.out.sp.lt (zf (p:=6) HS.out.sp);have m1:=zj (a:=⟨g,j,none⟩) hgw hx3;have m2:=zj (a:=⟨b2,j,none⟩) hb2w hx2;clear hx2 hx3 hTk hjP;go_upto_region 6 with fail
   clear hx1;refine z1p 15 hmx (by rfl) (by rfl) (by kernel_rfl) (by kernel_rfl) ?_;simp only [List.take_succ_cons,List.take_zero];repeat (go_big_quiet_step (fail))
   refine wpQuiet_nil ?_;intro W5 hw';obtain ⟨⟨Wx,hW5⟩,hw''⟩:=hw';subst hw'';have HF5:=Hd (HF.out.kept (fun i h0 _ _=>hW5.block i h0));have HB5:=Hd (HB.out.trans (Bk.of_below hW5));obtain ⟨g5,cap5,e5,_,_,hgw5,_,_,hx5,hf5⟩:=HF5.out.get (i:=k) (by rw [z52 T (by omega)];omega);simp only [Value.slice.injEq,Option.some.injEq,Addr.mk.injEq,and_true] at e5;have eg:=e5.1;clear e5;subst eg;have HF6:=Hd (HF5.out.set (i:=k) (by rw [z52 T (by omega)];omega) (y - x));rw [<-HFx.out] at HF6;clear m0 m1 m2 hne hW5 HF HB HF5 HFx;rw [if_pos (by rfl)];go_simp;go_wp2;go_roundw
   case rel=>exact ⟨k+1,by go_num,by omega,HF6,HB5.out.set (p:=⟨gb,k,none⟩) (.inl rfl) _⟩
   case measure=>simp [intOf];omega
  case neg =>
   obtain rfl:k=js.length:=by omega
   have s7:wr.cell? ⟨sb,7,none⟩=some (int i64 left):=zf (p:=7) HS.out.sp;have HF':Hid (zH wr gb (gb+1) (.slice (some ⟨gb,0,none⟩) js.length js.length) T):=(by rw [<-z90 T,hTl];exact HF);have KU:=Hd (z5V left _ T HOk.out wr HF'.out.at);go_wp2_with fail
   refine KU.out.mono ?_;rintro e w5 ⟨v5,rfl,hr5,hb5⟩;obtain ⟨a5,c5,rfl⟩:=hr5.form;have hz5:=hb5.size;have hzr:=HB.out.size;have KG:=Hd (z5K sb ac ar cc cr t width g cap C left L (z0m left T) js (.slice a1 js.length c1) (.slice a5 (z0m left T).length c5) w0.heap.size D w.heap.size hLC (fun k hk=>(HLt.out k hk).1) (by omega) HLn.out hLs HA1.out hleft hgD hDs hsbw w5 (HS.out.kept hb5).sp (HS.out.kept hb5).row ((HR.out.kept (fun j h0 _ _=>hb5.block j h0)).base (by omega) (by omega)) (hr5.base (by omega) (Nat.le_refl _)));have HB6:=Hd ((HB2.out.trans (HB.out.below (n:=w.heap.size) (by omega) (by omega))).trans (hb5.mono (by omega)));have HL6:=Hd ((HS.out.kept hb5).bel);clear KU s7;go_wp2_with fail
   refine KG.out.mono ?_;rintro e w6 ⟨rfl,hs6,hr6,hb6⟩;have HF6:=Hd (SpS.mk (HL6.out.trans (hb6.below HL6.out.size hg0 (by omega))) hs6 hr6);rw [HSum.out,HG1.out] at HF6;have HK6:=Hd ((Bk2.of_below HB6.out).trans hb6);clear hs6 hr6 hb6;go_wp2
   go_end0
   exact ⟨rfl,HF6.out,HK6.out⟩
def z7S (t:T) (width:Int) (k:Nat) (left:Int) (L:List Int):Prop :=
 (k=0/\L=zu t/\left=z0p t width) \/
 (k=1/\(0 < z0p t width/\L=z0R t width/\left=z1E t width\/left<=0/\L=zQ t width)) \/
 (k=2/\(0 < z0p t width/\L=z1i t width/\left=z24 t width\/left<=0/\L=zQ t width)) \/
 (k=3/\L=zQ t width)
theorem zg3 {t:T} {width left:Int} {L:List Int} (h:z7S t width 3 left L):L=zQ t width:=by
 rcases h with ⟨h,_⟩ | ⟨h,_⟩ | ⟨h,_⟩ | ⟨_,h⟩
 ·omega
 ·omega
 ·omega
 ·exact h
theorem zfd {t:T} {width left:Int} {L:List Int} {k:Nat} (h:z7S t width k left L) (hn:¬ 0 < left) (hk:k < 3) (h0:z0p t width<=0->zQ t width=zu t) (h1:0 < z0p t width->z1E t width<=0->zQ t width=z0R t width) (h2:0 < z0p t width->z24 t width<=0->zQ t width=z1i t width):z7S t width (k+1) left L:=by
 rcases h with ⟨rfl,rfl,rfl⟩ | ⟨rfl,h⟩ | ⟨rfl,h⟩ | ⟨h,_⟩
 ·exact .inr (.inl ⟨rfl,.inr ⟨by omega,(h0 (by omega)).symm⟩⟩)
 ·refine .inr (.inr (.inl ⟨rfl,.inr ?_⟩))
  rcases h with ⟨a,rfl,rfl⟩ | ⟨a,b⟩
  ·exact ⟨by omega,(h1 a (by omega)).symm⟩
  ·exact ⟨a,b⟩
 ·refine .inr (.inr (.inr ⟨rfl,?_⟩))
  rcases h with ⟨a,rfl,rfl⟩ | ⟨a,b⟩
  ·exact (h2 a (by omega)).symm
  ·exact b
 ·omega
theorem zeb {t:T} {width left:Int} {L:List Int} {k:Nat} (h:z7S t width k left L) (hp:0 < left) (hk:k < 3):0 < z0p t width/\(k=0/\L=zu t/\left=z0p t width\/k=1/\L=z0R t width/\left=z1E t width\/k=2/\L=z1i t width/\left=z24 t width):=by
 rcases h with ⟨rfl,rfl,rfl⟩ | ⟨rfl,h⟩ | ⟨rfl,h⟩ | ⟨h,_⟩
 ·exact ⟨hp,.inl ⟨rfl,rfl,rfl⟩⟩
 ·rcases h with ⟨a,rfl,rfl⟩ | ⟨a,b⟩
  ·exact ⟨a,.inr (.inl ⟨rfl,rfl,rfl⟩)⟩
  ·omega
 ·rcases h with ⟨a,rfl,rfl⟩ | ⟨a,b⟩
  ·exact ⟨a,.inr (.inr ⟨rfl,rfl,rfl⟩)⟩
  ·omega
 ·omega
theorem zaS (ac ar:Option Addr) (cc cr:Nat) (t:T) (hD:z0b t) (width:Int) (w:World) {z:Nat} (hc:zY w z (.slice ac t.cols.length cc) t.cols) (hr:zJ w z (.slice ar t.rows.length cr) t.rows) :
  Calls Tryz.prog 55 #[.agg #[.slice ac t.cols.length cc,int i64 t.head,int i64 t.foot,.slice ar t.rows.length cr,int i64 t.gap],int i64 width] w fun e w'=>∃ v,e=.returned v/\zH w' w.heap.size w'.heap.size v (z48 t width)/\Below w.heap.size w w':=by
 have hmx:Tryz.prog.follows .mixedOrders=true:=(by kernel_rfl);have hmf:∀ (fn:Fn) (first cap:Array Value) (W:World),(Instr.makeFunc fn first cap).run Tryz.prog W=.ok (.func fn first cap) W:=fun _ _ _ _=>rfl;have HK0:=Hd (ze (Below.refl w.heap.size w) (.cells #[.slice ac t.cols.length cc,int i64 t.head,int i64 t.foot,.slice ar t.rows.length cr,int i64 t.gap] 26));have HX:=Hd (zk w (.cells #[.slice ac t.cols.length cc,int i64 t.head,int i64 t.foot,.slice ar t.rows.length cr,int i64 t.gap] 26));have HT:=Hd (And.intro (hc.kept HK0.out) (hr.kept HK0.out));have HT0:=Hd (And.intro hc hr);have hs1:(w.alloc (.cells #[.slice ac t.cols.length cc,int i64 t.head,int i64 t.foot,.slice ar t.rows.length cr,int i64 t.gap] 26)).heap.size=w.heap.size+1:=(by simp);clear hc hr;go_enter Tryz.func55,Tryz.ntmps55;go_upto_region 1 with fail
 generalize w.alloc (.cells #[.slice ac t.cols.length cc,int i64 t.head,int i64 t.foot,.slice ar t.rows.length cr,int i64 t.gap] 26)=W1 at HK0 HX HT hs1 |-;have b0:W1.cell? ⟨w.heap.size,0,none⟩=some (.slice ac t.cols.length cc):=zf HX.out;have b1:W1.cell? ⟨w.heap.size,1,none⟩=some (int i64 t.head):=zf HX.out;have b2:W1.cell? ⟨w.heap.size,2,none⟩=some (int i64 t.foot):=zf HX.out;have b3:W1.cell? ⟨w.heap.size,3,none⟩=some (.slice ar t.rows.length cr):=zf HX.out;have b4:W1.cell? ⟨w.heap.size,4,none⟩=some (int i64 t.gap):=zf HX.out;have KM:=Hd (z49 ac ar cc cr t width _ HT.out.1 HT.out.2)
 cases hmay:(zq t && inB width 0 300) with
 | false =>
  have HW:Hid (z48 t width=[]):=(by rw [Hid,z48,if_neg (by rw [hmay];simp)]);rw [hmay] at KM;clear hmay;go_wp2_with fail
  refine KM.out.mono ?_;rintro e w2 ⟨rfl,hb2⟩;have HK2:=Hd (zg HK0.out hb2);clear hb2 KM b0 b1 b2 b3 b4;go_wp2;go_ret;exact ⟨_,rfl,by rw [HW.out];exact .inl ⟨rfl,rfl⟩,HK2.out⟩
 | true =>
  have HW:Hid (z48 t width=zQ t width):=(by rw [Hid,z48,if_pos hmay]);rw [hmay] at KM;rw [Bool.and_eq_true] at hmay;obtain ⟨htk,hin⟩:=hmay;have hw:0<=width/\width<=300:=(by simpa [inB] using hin);obtain ⟨hC1,hC88,hacr,ha0,ha1,hall⟩:=z53 hD htk;have hlen:=z1b t;have HrV:Hid (z0p t width=width - z1F (zu t) t.gap):=(by rw [Hid,hacr];rfl);have HA:=Hd (fun W v (h:z0g W v (zu t))=>z47 v (zu t) t.gap W h);generalize z1F (zu t) t.gap=A at HrV HA ha0 ha1 hacr;clear hacr;go_wp2_with fail
  refine KM.out.mono ?_;rintro e w2 ⟨rfl,hb2⟩;have X2:=(hb2.block w.heap.size (by omega)).trans HX.out;have HK2:=Hd (zg HK0.out hb2);have hz2:w.heap.size+1<=w2.heap.size:=(by have:=hb2.size;omega);clear hb2 KM b0 b1 b2 b3 b4 HX HT;have b0:w2.cell? ⟨w.heap.size,0,none⟩=some (.slice ac t.cols.length cc):=zf X2;have b1:w2.cell? ⟨w.heap.size,1,none⟩=some (int i64 t.head):=zf X2;have b2:w2.cell? ⟨w.heap.size,2,none⟩=some (int i64 t.foot):=zf X2;have b3:w2.cell? ⟨w.heap.size,3,none⟩=some (.slice ar t.rows.length cr):=zf X2;have b4:w2.cell? ⟨w.heap.size,4,none⟩=some (int i64 t.gap):=zf X2;have HX2:=Hd X2;clear X2;go_wp2_with fail
  refine (z3t ac ar cc cr t hD _ (HT0.out.1.kept HK2.out) (HT0.out.2.kept HK2.out)).mono ?_;rintro e w3 ⟨v3,rfl,hR3,hb3⟩;obtain ⟨g,cap,e3,hgB,hgD,hgw,hc1,hc2,_,_⟩:=hR3.get (i:=0) (by omega);subst e3;have X3:=(hb3.block w.heap.size (by omega)).trans HX2.out;have HK3:=Hd (zg HK2.out hb3);have HR3:=Hd hR3;have hz3:=hb3.size;clear hb3 b0 b1 b2 b3 b4 HX2 HK2 hR3;go_upto_region 4 with fail
  rw [hlen] at HR3;have l3:w.heap.size < w3.heap.size:=(by omega);have hne:=z1e w3;have m0:=zj (a:=⟨w.heap.size,0,none⟩) l3 (zf (p:=0) X3);have m1:=zj (a:=⟨w.heap.size,1,none⟩) l3 (zf (p:=1) X3);have m2:=zj (a:=⟨w.heap.size,2,none⟩) l3 (zf (p:=2) X3);have m3:=zj (a:=⟨w.heap.size,3,none⟩) l3 (zf (p:=3) X3);have m4:=zj (a:=⟨w.heap.size,4,none⟩) l3 (zf (p:=4) X3);have KA:=Hd (fun (p:BW w3)=>z4x (HA.out p.u _ (HR3.out.at.kept p.h)));refine z8j 10 1 hmx (by rfl) (by rfl) (by kernel_rfl) (by kernel_rfl) (by kernel_rfl) ?_;simp only [List.take_succ_cons,List.take_zero];repeat (go_big_quiet_step (first | (go_at_call 67;refine KA.out _)))
  refine wpQuiet_nil ?_;intro W5 hw';obtain ⟨⟨Wx,hW5⟩,hw''⟩:=hw';subst hw'';have X5:=(hW5.block w.heap.size l3).trans X3;have HK5:=Hd (zg HK3.out hW5);have HR5:=Hd (HR3.out.kept (fun j h0 _ _=>hW5.block j h0));have hz5:=hW5.size;have HS5:=Hd (zk W5 (.cells #[.slice ac t.cols.length cc,int i64 t.head,int i64 t.foot,.slice ar t.rows.length cr,int i64 t.gap,int i64 width,.slice (some ⟨g,0,none⟩) (zz t) cap,int i64 (width - A)] 118));clear m0 m1 m2 m3 m4 hne hW5 X3 HR3 HK3 KA X5;rw [if_pos (by rfl)];go_simp;refine wpAny_ready (rs:=[11]) (by kernel_rfl) (by simp) ?_;refine AllReady.cons rfl (fun K hK=>?_) AllReady.nil;go_simp;refine hK _ _ ?_;clear hK K;refine wpAny_done (by kernel_rfl) ?_ _;have HS6:=Hd (SpS.mk (w0:=w) (D:=W5.heap.size) (ze HK5.out _) HS5.out ((HR5.out.kept (w':=W5.alloc (.cells #[.slice ac t.cols.length cc,int i64 t.head,int i64 t.foot,.slice ar t.rows.length cr,int i64 t.gap,int i64 width,.slice (some ⟨g,0,none⟩) (zz t) cap,int i64 (width - A)] 118)) (fun j h0 _ _=>Below.heap_alloc _ _ _ h0)).base (by omega) (by omega)));rw [<-HrV.out] at HS6 |-;have hg0:w.heap.size<=g:=(by omega);have hgD5:g < W5.heap.size:=(by omega);have hs6:(W5.alloc (.cells #[.slice ac t.cols.length cc,int i64 t.head,int i64 t.foot,.slice ar t.rows.length cr,int i64 t.gap,int i64 width,.slice (some ⟨g,0,none⟩) (zz t) cap,int i64 (z0p t width)] 118)).heap.size=W5.heap.size+1:=(by simp);generalize W5.alloc (.cells #[.slice ac t.cols.length cc,int i64 t.head,int i64 t.foot,.slice ar t.rows.length cr,int i64 t.gap,int i64 width,.slice (some ⟨g,0,none⟩) (zz t) cap,int i64 (z0p t width)] 118)=W6 at HS6 hs6 |-;generalize W5.heap.size=sb at HS6 hs6 hgD5 |-;clear HS5 HR5 HK5 hz5;go_upto_region 6 with fail
  have HS7:=Hd (HS6.out.kept (ze (Below.refl W6.heap.size W6) (.cells #[.func (.func 68) #[.pointer (some ⟨sb,0,none⟩)] #[],.func (.func 69) #[.pointer (some ⟨sb,0,none⟩)] #[],.func (.func 70) #[.pointer (some ⟨sb,0,none⟩)] #[]] 1)));have HF7:=Hd (zk W6 (.cells #[.func (.func 68) #[.pointer (some ⟨sb,0,none⟩)] #[],.func (.func 69) #[.pointer (some ⟨sb,0,none⟩)] #[],.func (.func 70) #[.pointer (some ⟨sb,0,none⟩)] #[]] 1));rw [hs6] at HF7;generalize W6.alloc (.cells #[.func (.func 68) #[.pointer (some ⟨sb,0,none⟩)] #[],.func (.func 69) #[.pointer (some ⟨sb,0,none⟩)] #[],.func (.func 70) #[.pointer (some ⟨sb,0,none⟩)] #[]] 1)=W7 at HS7 HF7 |-;clear HS6 hs6;have HWno:=Hd (fun h=>zfC (t:=t) (width:=width) h);have HW1:=Hd (fun h=>zfb hD htk hw hC88 h);have HW2:=Hd (fun h=>zbm hD htk hw hC88 h);have HWr:=Hd (fun h=>zak (t:=t) (width:=width) h);have HSt:=Hd (fun h=>z3f hD htk hw h);have HSm:=Hd (fun h=>zbV hD htk hw h);have HOw:=Hd (fun h (j:Nat) (hj:j < zz t) (hP:zn t 0 j=true)=>zd9 hD htk hw h hj hP);go_wp2_with fail
  go_loopw [36] (fun s W=>∃ (k:Nat) (left:Int) (L:List Int),s=int i64 k/\k<=3/\Hid (SpS w sb ac ar cc cr t width g cap (zz t) sb left L W)/\Hid (W.heap[sb+1]?=some (.cells #[.func (.func 68) #[.pointer (some ⟨sb,0,none⟩)] #[],.func (.func 69) #[.pointer (some ⟨sb,0,none⟩)] #[],.func (.func 70) #[.pointer (some ⟨sb,0,none⟩)] #[]] 1))/\Hid (z7S t width k left L)) (fun s _=>3 - (intOf s).toNat)
  case atStart=>exact ⟨0,_,_,rfl,Nat.zero_le _,HS7,HF7,.inl ⟨rfl,rfl,rfl⟩⟩
  case round =>
   obtain ⟨k,left,L,rfl,hk,HS,HF,HC⟩:=hrel;have s7:wr.cell? ⟨sb,7,none⟩=some (int i64 left):=zf (p:=7) HS.out.sp;have s6:wr.cell? ⟨sb,6,none⟩=some (.slice (some ⟨g,0,none⟩) (zz t) cap):=zf (p:=6) HS.out.sp;have f0:wr.cell? ⟨sb+1,0,none⟩=some (.func (.func 68) #[.pointer (some ⟨sb,0,none⟩)] #[]):=zf (p:=0) HF.out;have f1:wr.cell? ⟨sb+1,1,none⟩=some (.func (.func 69) #[.pointer (some ⟨sb,0,none⟩)] #[]):=zf (p:=1) HF.out;have f2:wr.cell? ⟨sb+1,2,none⟩=some (.func (.func 70) #[.pointer (some ⟨sb,0,none⟩)] #[]):=zf (p:=2) HF.out;by_cases hk3:k=3
   ·subst hk3;have HL:=Hd (zg3 HC.out);go_wp2;go_ret;exact ⟨_,rfl,by rw [HW.out,<-HL.out];exact HS.out.row.base (Nat.le_refl _) (Nat.le_of_lt HS.out.sp.lt),HS.out.bel⟩
   by_cases hpos:0 < left
   case neg =>
    have HN:=Hd (zfd HC.out hpos (by omega) HWno.out HW1.out HW2.out)
    rcases (by omega:k=0\/k=1\/k=2) with rfl | rfl | rfl
    all_goals
     go_wp2;go_roundw
     case rel=>exact ⟨_,left,L,by go_num,by omega,HS,HF,HN⟩
     case measure=>simp [intOf]
   case pos =>
    obtain ⟨hV,hst⟩:=zeb HC.out hpos (by omega);clear HC
    rcases hst with ⟨rfl,rfl,rfl⟩ | ⟨rfl,rfl,rfl⟩ | ⟨rfl,rfl,rfl⟩
    ·have hst:=HSt.out hV;have HKe:=Hd (zaP w sb ac ar cc cr t width g cap (zz t) sb (z0p t width) (zu t) HT0.out.1 hC88 rfl hlen hall hg0 hgD5 (Nat.le_refl _) hw hst.1 wr HS.out);clear hst;go_wp2_with (go_at_call 68;refine HKe.out.mono ?_;rintro e w8 ⟨rfl,hS8,hb8⟩;replace HF:=Hd ((hb8.block (sb+1) (bL HF.out) (by omega) (by omega)).trans HF.out);clear hb8 HKe s6 s7 f0 f1 f2)
     go_roundw
     case rel=>exact ⟨1,_,_,by go_num,by omega,hS8,HF,.inr (.inl ⟨rfl,.inl ⟨hV,rfl,rfl⟩⟩)⟩
     case measure=>simp [intOf]
    ·have hst:=HSt.out hV;have HKe:=Hd (zal w sb ac ar cc cr t width g cap (zz t) sb (z1E t width) (z0R t width) hD HT0.out.1 HT0.out.2 (HOw.out hV) hC88 rfl hst.2.2.2.1 (HSm.out hV).1 hg0 hgD5 (Nat.le_refl _) hst.2.1 wr HS.out);clear hst;go_wp2_with (go_at_call 69;refine HKe.out.mono ?_;rintro e w8 ⟨rfl,hS8,hb8⟩;replace HF:=Hd ((hb8.block (sb+1) (bL HF.out) (by omega) (by omega)).trans HF.out);clear hb8 HKe s6 s7 f0 f1 f2)
     go_roundw
     case rel=>exact ⟨2,_,_,by go_num,by omega,hS8,HF,.inr (.inr (.inl ⟨rfl,.inl ⟨hV,rfl,rfl⟩⟩))⟩
     case measure=>simp [intOf]
    ·have hst:=HSt.out hV;have HKe:=Hd (z9e w sb ac ar cc cr t width g cap (zz t) sb (z24 t width) (z1i t width) HT0.out.1 hC88 hst.2.2.2.2.1 (HSm.out hV).2 hg0 hgD5 (Nat.le_refl _) (by have:=hst.2.2.1;omega) wr HS.out);clear hst;go_wp2_with (go_at_call 70;refine HKe.out.mono ?_;rintro e w8 ⟨rfl,⟨left8,hS8⟩,hb8⟩;replace HF:=Hd ((hb8.block (sb+1) (bL HF.out) (by omega) (by omega)).trans HF.out);clear hb8 HKe s6 s7 f0 f1 f2)
     go_roundw
     case rel=>exact ⟨3,_,_,by go_num,by omega,hS8,HF,.inr (.inr (.inr ⟨rfl,(HWr.out hV).symm⟩))⟩
     case measure=>simp [intOf]
end
section
open Go.RowKit
theorem zfG {t:T} (hD:z0b t) (hok:zq t=true) {width:Int} (hw:0<=width/\width<=300):UpB (zQ t width) 5000:=by
 obtain ⟨h1,h2,h3⟩:=z8O hD hok hw;have hup:=z2K hD;have hll:=z1b t;obtain ⟨hC1,hC88,_,_,_,_⟩:=z53 hD hok
 have hg:0<=t.gap/\t.gap<=3:=by
  simp only [zq,inB,Bool.and_eq_true,decide_eq_true_eq] at hok;exact hok.2.2.1
 have hgg:0<=t.gap * ((zz t:Int) - 1):=Int.mul_nonneg hg.1 (by omega)
 have hpos:∀ i,i < (zQ t width).length->0<=(zQ t width).getD i 0:=fun i hi=>by
  have a:=h3 i (by omega);have b:=hup i (by omega);omega
 intro i hi;refine ⟨hpos i hi,?_⟩
 split at h2
 ·have hs:(zQ t width).sum=(zu t).sum:=(by omega);by_cases hlt:(zu t).getD i 0 < (zQ t width).getD i 0
  ·have:=z9V (a:=zu t) (b:=zQ t width) (by omega) (fun j hj=>(h3 j (by omega)).1) i (by omega) hlt;omega
  ·have:=hup i (by omega);omega
 ·have:=zaj hpos hi;omega
def zbW (t:T) (width:Int):Int:=z1F (z48 t width) t.gap
theorem zff {t:T} (hD:z0b t) (hok:zq t=true) {width:Int} (hw:0<=width/\width<=300) :
  z48 t width=zQ t width/\(zQ t width).length=zz t/\zbW t width=(zQ t width).sum+t.gap * ((zz t:Int) - 1)/\(zQ t width).all wtB=true/\0<=(zQ t width).sum/\(zQ t width).sum<=1000000/\0<=t.gap * ((zz t:Int) - 1)/\t.gap * ((zz t:Int) - 1)<=1000 /\
  zbW t width=(if width < z1F (zu t) t.gap\/z6c t=true then z1F (zu t) t.gap else width):=by
 obtain ⟨hC1,hC2,ea,_,_,_⟩:=z53 hD hok;obtain ⟨f1,f2,_⟩:=z8O hD hok hw;have hup:=zfG hD hok hw;have hall:(zQ t width).all wtB=true:=z5l (fun i hi=>by have:=hup i hi;omega);have hs:=z2B hall;have hsb:=z4v (l:=zQ t width) (B:=5000) (fun x hx=>hup.mem hx)
 have hg:0<=t.gap/\t.gap<=3:=by
  simp only [zq,inB,Bool.and_eq_true,decide_eq_true_eq] at hok;exact hok.2.2.1
 have hg1:0<=t.gap * ((zz t:Int) - 1):=Int.mul_nonneg hg.1 (by omega);have hg2:t.gap * ((zz t:Int) - 1)<=3 * 87:=Int.mul_le_mul hg.2 (by omega) (by omega) (by omega);have e0:z48 t width=zQ t width:=(by unfold z48;rw [if_pos (by rw [hok,z2k hw.1 hw.2];rfl)])
 have e1:zbW t width=(zQ t width).sum+t.gap * ((zz t:Int) - 1):=by
  unfold zbW;rw [e0,z3W (by omega),f1,z5d (by omega)]
 refine ⟨e0,f1,e1,hall,hs.1,by omega,hg1,by omega,?_⟩;rw [e1,f2,ea]
end
section
open Go.RowKit Go.BigFrame
structure HlJ (w W1 W3:World) (BB:Nat) (ac ar ag:Option Addr) (cc cr cg:Nat) (t:T) (x:GC) (U:Value) (us:List Value) (ls:List (List ByteArray)) (lns:List ByteArray) (s:ByteArray) (q:Int) (va:Value) (k tb gb cb b off:Nat) (L:Nat->Bool) (W:World) (v6 v24 v25 v26 v27 v28 v29 v30 v31 v32 v33 v34 v35:Value):Prop where
 f0:L 0=true->v24=U
 f1:L 1=true->v25=.agg #[.slice ac t.cols.length cc,int i64 t.head,int i64 t.foot,.slice ar t.rows.length cr,int i64 t.gap]
 f2:L 2=true->v26=.agg #[int i64 x.row,int i64 x.col,int i64 x.rows,int i64 x.cols,int i64 x.ins]
 f3:L 3=true->v27=.string s
 f4:L 4=true->v28=va
 f5:L 5=true->v29=.pointer (some ⟨tb,4,none⟩)
 f6:L 6=true->v30=int i64 t.gap
 f7:L 7=true->v31=.agg #[int i64 x.row,int i64 x.col,int i64 x.rows,int i64 x.cols,int i64 x.ins]
 f8:L 8=true->v32=int i64 q
 f9:L 9=true->L 11=false->z1X W BB v33 lns
 f10:L 10=true->∃ g,v34=.slice (some ⟨g,0,none⟩) 1 1/\(L 11=false->W.cell? ⟨g,0,none⟩=some v33)
 fA:L 12=true->v6=v35
 nA:L 12=false->v6=U
 b4:L 11=false->Below W3.heap.size W3 W
 bel:Below W1.heap.size W1 W
 ownA:L 11=true->W.ownsRow BB 74 1 v35 (us ++ [v33]).length (us ++ [v33])/\z2b W BB (us ++ [v33]) (ls ++ [lns])
theorem zaT (a b c:Value) (W:World):(Instr.field 68 (.agg #[a,b,c]) 2).run Tryz.prog W=.ok c W:=by kernel_rfl
theorem zao (ac ar:Option Addr) (cc cr:Nat) (t:T) (hD:z0b t) (width:Int) (w:World) {z:Nat} (hc:zY w z (.slice ac t.cols.length cc) t.cols) (hr:zJ w z (.slice ar t.rows.length cr) t.rows) :
  Calls Tryz.prog 36 #[.agg #[.slice ac t.cols.length cc,int i64 t.head,int i64 t.foot,.slice ar t.rows.length cr,int i64 t.gap],int i64 width] w fun e w'=>∃ v,e=.returned v/\z2A w' w.heap.size v (z13 t width)/\Below w.heap.size w w':=by
 have hmx:Tryz.prog.follows .mixedOrders=true:=(by kernel_rfl);have hfld:=zaT;obtain ⟨i0,hi0,hz0,hz1,hz2⟩:=info_parts zfA;have HK0:=Hd (ze (Below.refl w.heap.size w) (.cells #[.slice ac t.cols.length cc,int i64 t.head,int i64 t.foot,.slice ar t.rows.length cr,int i64 t.gap] 26));have HX0:=Hd (zk w (.cells #[.slice ac t.cols.length cc,int i64 t.head,int i64 t.foot,.slice ar t.rows.length cr,int i64 t.gap] 26));have HT0:Hid (TA w z ac ar cc cr t):=⟨hc,hr⟩;have hs0:(w.alloc (.cells #[.slice ac t.cols.length cc,int i64 t.head,int i64 t.foot,.slice ar t.rows.length cr,int i64 t.gap] 26)).heap.size=w.heap.size+1:=(by simp);clear hc hr;go_enter Tryz.func36,Tryz.ntmps36;go_upto_region 1 with fail
 generalize w.alloc (.cells #[.slice ac t.cols.length cc,int i64 t.head,int i64 t.foot,.slice ar t.rows.length cr,int i64 t.gap] 26)=W0 at HK0 HX0 hs0 |-;obtain ⟨b0,b1,b2,b3,b4⟩:=zy HX0.out;have KM:=Hd (z49 ac ar cc cr t width _ (HT0.out.kept HK0.out).1 (HT0.out.kept HK0.out).2)
 cases hmay:(zq t && inB width 0 300) with
 | false =>
  have HW:Hid (z13 t width=[]):=(by rw [Hid,z13,if_neg (by rw [hmay];simp)]);rw [hmay] at KM;clear hmay;go_wp2_with fail
  refine KM.out.mono ?_;rintro e w2 ⟨rfl,hb2⟩;have HK2:=Hd (zg HK0.out hb2);clear hb2 KM b0 b1 b2 b3 b4;go_wp2;go_ret;exact ⟨_,rfl,by rw [HW.out];exact ⟨none,0,rfl,Nat.le_refl _,Nat.zero_le _,fun i hi=>absurd hi (Nat.not_lt_zero _)⟩,HK2.out⟩
 | true =>
  have HW:Hid (z13 t width=z0I t (zQ t width) (gOf t).cells):=(by rw [Hid,z13,if_pos hmay]);rw [hmay] at KM;have HWT:Hid (z48 t width=zQ t width):=(by rw [Hid,z48,if_pos hmay]);rw [Bool.and_eq_true] at hmay;obtain ⟨htk,hin⟩:=hmay;have hw:0<=width/\width<=300:=(by simpa [inB] using hin);obtain ⟨_,hlw,_⟩:=zff hD htk hw;obtain ⟨_,hC88,_⟩:=z53 hD htk;obtain ⟨h40,C,hgc,hC88',hcel⟩:=z3n hD;have HCel:=Hd hcel;have HLw:=Hd hlw;have hl1:(zQ t width).length<=1048576:=(by rw [hlw];omega);have KC:=Hd (fun W (h:TA W z ac ar cc cr t)=>zaS ac ar cc cr t hD width W h.1 h.2);have KG:=Hd (fun W (h:TA W z ac ar cc cr t)=>z6m ac ar cc cr t hD W h.1 h.2);rw [HWT.out] at KC;generalize zQ t width=l at KC HW HLw hl1;have HGk:=Hd (z81 hD);clear hlw hcel hgc hD htk hin hw hC88' HWT;go_wp2_with fail
  refine KM.out.mono ?_;rintro e w2 ⟨rfl,hb2⟩;have HX2:=Hd ((hb2.block w.heap.size (by omega)).trans HX0.out);have HK2:=Hd (zg HK0.out hb2);have hz2':w.heap.size < w2.heap.size:=(by have:=hb2.size;omega);clear hb2 KM b0 b1 b2 b3 b4 HX0 HK0;obtain ⟨b0,b1,b2,b3,b4⟩:=zy HX2.out;go_wp2_with fail
  refine (KC.out _ (HT0.out.kept HK2.out)).mono ?_;rintro e w3 ⟨v3,rfl,hR3,hb3⟩;obtain ⟨a3,c3,rfl⟩:=hR3.form;have HI3:=Hd hR3.at;rw [HLw.out] at HI3;have HX3:=Hd ((hb3.block w.heap.size hz2').trans HX2.out);have HK3:=Hd (zg HK2.out hb3);have hz3:w.heap.size < w3.heap.size:=(by have:=hb3.size;omega);clear hb3 hR3 b0 b1 b2 b3 b4 HX2 HK2;rw [HLw.out];obtain ⟨b0,b1,b2,b3,b4⟩:=zy HX3.out;go_wp2_with fail
  refine (KG.out _ (HT0.out.kept HK3.out)).mono ?_;rintro e W1 ⟨vg,rfl,hO4,hb4⟩;obtain ⟨ag,cg,rfl⟩:=z66 hO4;have HG1:=Hd (hO4.at HGk.out);have HX1:=Hd ((hb4.block w.heap.size hz3).trans HX3.out);have HK1:=Hd (zg HK3.out hb4);have HI1:=Hd (HI3.out.kept hb4);have hz1':w.heap.size < W1.heap.size:=(by have:=hb4.size;omega);have HLe:=Hd (z3q t l (gOf t).cells);have HLn:=Hd (fun k (h:k < (gOf t).cells.length)=>zaG t l h);have HLs:=Hd (zaH t l (gOf t).cells);clear hb4 hO4 b0 b1 b2 b3 b4 HX3 HK3 HI3;go_wp2_with fail
  go_loopw [6,20] (fun o i W=>∃ (k:Nat) (us:List Value),i=int i64 k/\k<=(gOf t).cells.length/\Hid (W.ownsRow W1.heap.size 74 1 o us.length us)/\Hid (z2b W W1.heap.size us ((z0I t l (gOf t).cells).take k))/\Hid (Below W1.heap.size W1 W)) (fun _ i _=>(gOf t).cells.length - (intOf i).toNat)
  case atStart=>exact ⟨0,[],rfl,Nat.zero_le _,World.ownsRow_nil _ _ _ _,by rw [List.take_zero];exact z2b.nil _ _,Below.refl _ _⟩
  case round =>
   obtain ⟨k,us,rfl,hk,HO,HRs,HBr⟩:=hrel;by_cases hkl:k < (gOf t).cells.length
   case neg =>
    obtain rfl:k=(gOf t).cells.length:=by omega
    rw [<-HLe.out,List.take_length] at HRs;have HF:=Hd (HRs.out.lls HO.out (z:=w.heap.size) (by omega) (by omega) HLs.out);have HK:=Hd (HK1.out.trans (HBr.out.mono (by omega)));go_wp2;go_ret;exact ⟨_,rfl,by rw [HW.out];exact HF.out,HK.out⟩
   obtain ⟨b,off,cap',e',hc1,hc2,hbl,hx,hxo⟩:=At.get (HG1.out.kept HBr.out) hkl;simp only [Value.slice.injEq,true_and] at e';obtain ⟨rfl,rfl⟩:=e';have HNx:=Hd (HLn.out k hkl);have HCx:=Hd (HCel.out k hkl);generalize (z0I t l (gOf t).cells).take k=ls at HRs HNx;generalize (gOf t).cells.getD k dG=x at hx hxo HNx HCx;obtain ⟨x0,x1,x2,x3,x4⟩:=hx;unfold maxLen at hc2;go_upto_region 8 with fail
   have HB4:=Hd (ze (Below.refl wr.heap.size wr) (.cells #[int i64 x.row,int i64 x.col,int i64 x.rows,int i64 x.cols,int i64 x.ins] 73));have HB1:=Hd (zg HBr.out HB4.out);have HC4:=Hd (zk wr (.cells #[int i64 x.row,int i64 x.col,int i64 x.rows,int i64 x.cols,int i64 x.ins] 73));have hlc:wr.heap.size < (wr.alloc (.cells #[int i64 x.row,int i64 x.col,int i64 x.rows,int i64 x.cols,int i64 x.ins] 73)).heap.size:=(by simp);have HX:=Hd ((HB1.out.block w.heap.size hz1').trans HX1.out);have hlt0:w.heap.size < (wr.alloc (.cells #[int i64 x.row,int i64 x.col,int i64 x.rows,int i64 x.cols,int i64 x.ins] 73)).heap.size:=(bL HX.out);replace HO:=Hd (z5R HO.out HB4.out);replace HRs:=Hd (HRs.out.kept HB4.out);generalize wr.alloc (.cells #[int i64 x.row,int i64 x.col,int i64 x.rows,int i64 x.cols,int i64 x.ins] 73)=W3 at HB4 HB1 HC4 hlc HX hlt0 HO HRs |-;generalize wr.heap.size=cb at HC4 hlc |-;have hsz:(zL t x).size<=maxLen:=z8Y HCx.out HT0.out.2;have KT:=Hd (fun W (h:Below W3.heap.size W3 W)=>z7I ac ar cc cr t x HCx.out W (((HT0.out.2.kept HK1.out).kept HB1.out).kept h));have KW:=Hd (fun W (h:Below W3.heap.size W3 W)=>z6L _ l hl1 t.gap x hxo W ((HI1.out.kept HB1.out).kept h));have KL:=Hd (fun W=>zan (zL t x) hsz (z2z l t.gap x) W);have HNy:Hid ((z0I t l (gOf t).cells).take (k+1)=ls ++ [z08 (z0Q (z2z l t.gap x) (zV (zL t x)))]):=HNx.out;clear HNx hsz;have HNx:=HNy;clear HNy HCx hxo;generalize z08 (z0Q (z2z l t.gap x) (zV (zL t x)))=lns at KL HNx;generalize z2z l t.gap x=q at KW KL;generalize zL t x=s at KT KL;have husl:us.length<=40:=(by have h1:=HRs.out.1;have h2:=congrArg List.length HNx.out;rw [List.length_append,List.length_take,List.length_singleton] at h2;omega);have HBs:Hid (∀ {m:Nat},W1.heap.size<=m->W1.heap.size<=m):=fun h=>h;have HBs2:Hid (∀ {m:Nat},W1.heap.size<=m->W1.heap.size<=m):=fun h=>h;clear HCel HLn HLs HLe x0 x1 x2 x3 x4 HBr HB4;refine z0q (fun L act W=>∃ v6 v24 v25 v26 v27 v28 v29 v30 v31 v32 v33 v34 v35:Value,act=⟨#[.agg #[.slice ac t.cols.length cc,int i64 t.head,int i64 t.foot,.slice ar t.rows.length cr,int i64 t.gap],int i64 width,.pointer (some ⟨w.heap.size,0,none⟩),undef,.slice none 0 0,.slice a3 (zz t) c3,v6,undef,.pointer (some ⟨cb,0,none⟩),.agg #[.slice ac t.cols.length cc,int i64 t.head,int i64 t.foot,.slice ar t.rows.length cr,int i64 t.gap],int i64 width,.bool true,.bool false,.agg #[.slice ac t.cols.length cc,int i64 t.head,int i64 t.foot,.slice ar t.rows.length cr,int i64 t.gap],int i64 width,.slice a3 (zz t) c3,.agg #[.slice ac t.cols.length cc,int i64 t.head,int i64 t.foot,.slice ar t.rows.length cr,int i64 t.gap],.agg #[int i64 (gOf t).rows,int i64 (gOf t).cols,.slice (some ⟨b,off,none⟩) (gOf t).cells.length cg],.slice (some ⟨b,off,none⟩) (gOf t).cells.length cg,int i64 ((gOf t).cells.length:Int),int i64 (k:Int),.bool true,.pointer (some ⟨b,off+k * 5,none⟩),.agg #[int i64 x.row,int i64 x.col,int i64 x.rows,int i64 x.cols,int i64 x.ins],v24,v25,v26,v27,v28,v29,v30,v31,v32,v33,v34,v35,u36,undef],[]⟩/\HlJ w W1 W3 W1.heap.size ac ar (some ⟨b,off,none⟩) cc cr cg t x u6 us ls lns s q (.slice a3 (zz t) c3) k w.heap.size 0 cb b off L W v6 v24 v25 v26 v27 v28 v29 v30 v31 v32 v33 v34 v35) hmx (by kernel_rfl) ?hs ?hd ?h0
   case h0=>exact e13 ⟨rfl,⟨n0,n0,n0,n0,n0,n0,n0,n0,n0,n0,n0,n0,fun _=>rfl,fun _=>z1P (Below.refl _ _),z1P HB1.out,n0⟩⟩
   case hd =>
    intro L act W hJ hall;obtain ⟨v6,v24,v25,v26,v27,v28,v29,v30,v31,v32,v33,v34,v35,ha,J⟩:=hJ;subst ha;obtain rfl:=J.fA (hall 12 (by decide));obtain ⟨ho5,hr5⟩:=J.ownA (hall 11 (by decide));have HO5:=Hd ho5;have HR5:=Hd hr5;have HB5:=Hd J.bel;obtain ⟨g',cap'',rfl⟩:=Joins.ownsRow_form HO5.out (by simp);clear J hall ho5 hr5;go_wp2;go_roundw
    case rel=>exact ⟨k+1,_,by go_num,by omega,HO5,by rw [HNx.out];exact HR5,HB5⟩
    case measure=>simp [intOf];omega
   case hs =>
    intro L act W i o hJ hcl ho hLi haft K hK;obtain ⟨v6,v24,v25,v26,v27,v28,v29,v30,v31,v32,v33,v34,v35,ha,J⟩:=hJ;subst ha
    have hi':i < 13:=by
     have:=(bL ho)
     simpa using this
    rcases (by omega:i=0\/i=1\/i=2\/i=3\/i=4\/i=5\/i=6\/i=7\/i=8\/i=9\/i=10\/i=11\/i=12) with rfl | rfl | rfl | rfl | rfl | rfl | rfl | rfl | rfl | rfl | rfl | rfl | rfl
    all_goals
     simp only [List.getElem?_toArray,List.getElem?_cons_zero,List.getElem?_cons_succ,Option.some.injEq] at ho;subst ho;clear hi'
    ·have hAp:L 11=false:=(Qh hcl 11 0 hLi);have hAs:L 12=false:=(Pl hcl 12 [11] hLi);have B4:=J.b4 hAp;obtain rfl:=J.nA hAs;go_simp;exact hK _ _ (e13 ⟨rfl,⟨fun _=>rfl,uq J.f1,uq J.f2,uq J.f3,uq J.f4,uq J.f5,uq J.f6,uq J.f7,uq J.f8,u2 J.f9,ub J.f10,uf hAs,uq J.nA,fun _=>B4,J.bel,uf hAp⟩⟩)
    ·have hAp:L 11=false:=(Pl hcl 11 [10,9,3] hLi);have hAs:L 12=false:=(Pl hcl 12 [11,10,9,3] hLi);have B4:=J.b4 hAp;obtain ⟨q0,q1,q2,q3,q4⟩:=zy ((B4.block _ hlt0).trans HX.out);have hl:=Nat.lt_of_lt_of_le hlt0 B4.size;go_simp;exact hK _ _ (e13 ⟨rfl,⟨uq J.f0,fun _=>rfl,uq J.f2,uq J.f3,uq J.f4,uq J.f5,uq J.f6,uq J.f7,uq J.f8,u2 J.f9,ub J.f10,uf hAs,uq J.nA,fun _=>B4,J.bel,uf hAp⟩⟩)
    ·have hAp:L 11=false:=(Pl hcl 11 [10,9,3] hLi);have hAs:L 12=false:=(Pl hcl 12 [11,10,9,3] hLi);have B4:=J.b4 hAp;obtain ⟨q0,q1,q2,q3,q4⟩:=zy ((B4.block _ hlc).trans HC4.out);have hl:=Nat.lt_of_lt_of_le hlc B4.size;go_simp;exact hK _ _ (e13 ⟨rfl,⟨uq J.f0,uq J.f1,fun _=>rfl,uq J.f3,uq J.f4,uq J.f5,uq J.f6,uq J.f7,uq J.f8,u2 J.f9,ub J.f10,uf hAs,uq J.nA,fun _=>B4,J.bel,uf hAp⟩⟩)
    ·have hAp:L 11=false:=(Pl hcl 11 [10,9] hLi);have hAs:L 12=false:=(Pl hcl 12 [11,10,9] hLi);have B4:=J.b4 hAp;obtain rfl:=J.f1 (Fa haft 1);obtain rfl:=J.f2 (Fa haft 2);go_simp;go_wp2_with (go_at_call 57;refine (KT.out W B4).mono ?_;rintro e WN ⟨rfl,_,hb⟩)
     exact e13 ⟨rfl,⟨uq J.f0,uq J.f1,uq J.f2,fun _=>rfl,uq J.f4,uq J.f5,uq J.f6,uq J.f7,uq J.f8,fun h h2=>(J.f9 (un h) (by rwa [zc rfl] at h2)).below hb (Nat.le_refl _),fun h=>by obtain ⟨g,e,c⟩:=J.f10 (un h);exact ⟨g,e,fun h2=>(hb.cell (World.block_lt_of_cell? _ _ (c (by rwa [zc rfl] at h2)))).trans (c (by rwa [zc rfl] at h2))⟩,uf hAs,uq J.nA,fun _=>zg B4 hb,zg J.bel hb,uf hAp⟩⟩
    ·have hAp:L 11=false:=(Pl hcl 11 [10,9,8] hLi);have hAs:L 12=false:=(Pl hcl 12 [11,10,9,8] hLi);have B4:=J.b4 hAp;go_simp;exact hK _ _ (e13 ⟨rfl,⟨uq J.f0,uq J.f1,uq J.f2,uq J.f3,fun _=>rfl,uq J.f5,uq J.f6,uq J.f7,uq J.f8,u2 J.f9,ub J.f10,uf hAs,uq J.nA,fun _=>B4,J.bel,uf hAp⟩⟩)
    ·have hAp:L 11=false:=(Pl hcl 11 [10,9,8,6] hLi);have hAs:L 12=false:=(Pl hcl 12 [11,10,9,8,6] hLi);have B4:=J.b4 hAp;go_simp;exact hK _ _ (e13 ⟨rfl,⟨uq J.f0,uq J.f1,uq J.f2,uq J.f3,uq J.f4,fun _=>rfl,uq J.f6,uq J.f7,uq J.f8,u2 J.f9,ub J.f10,uf hAs,uq J.nA,fun _=>B4,J.bel,uf hAp⟩⟩)
    ·have hAp:L 11=false:=(Pl hcl 11 [10,9,8] hLi);have hAs:L 12=false:=(Pl hcl 12 [11,10,9,8] hLi);have B4:=J.b4 hAp;obtain ⟨q0,q1,q2,q3,q4⟩:=zy ((B4.block _ hlt0).trans HX.out);have hl:=Nat.lt_of_lt_of_le hlt0 B4.size;obtain rfl:=J.f5 (Fa haft 5);go_simp;exact hK _ _ (e13 ⟨rfl,⟨uq J.f0,uq J.f1,uq J.f2,uq J.f3,uq J.f4,uq J.f5,fun _=>rfl,uq J.f7,uq J.f8,u2 J.f9,ub J.f10,uf hAs,uq J.nA,fun _=>B4,J.bel,uf hAp⟩⟩)
    ·have hAp:L 11=false:=(Pl hcl 11 [10,9,8] hLi);have hAs:L 12=false:=(Pl hcl 12 [11,10,9,8] hLi);have B4:=J.b4 hAp;obtain ⟨q0,q1,q2,q3,q4⟩:=zy ((B4.block _ hlc).trans HC4.out);have hl:=Nat.lt_of_lt_of_le hlc B4.size;go_simp;exact hK _ _ (e13 ⟨rfl,⟨uq J.f0,uq J.f1,uq J.f2,uq J.f3,uq J.f4,uq J.f5,uq J.f6,fun _=>rfl,uq J.f8,u2 J.f9,ub J.f10,uf hAs,uq J.nA,fun _=>B4,J.bel,uf hAp⟩⟩)
    ·have hAp:L 11=false:=(Pl hcl 11 [10,9] hLi);have hAs:L 12=false:=(Pl hcl 12 [11,10,9] hLi);have B4:=J.b4 hAp;obtain rfl:=J.f4 (Fa haft 4);obtain rfl:=J.f6 (Fa haft 6);obtain rfl:=J.f7 (Fa haft 7);go_simp;go_wp2_with (go_at_call 58;refine (KW.out W B4).mono ?_;rintro e WN ⟨rfl,hb⟩)
     exact e13 ⟨rfl,⟨uq J.f0,uq J.f1,uq J.f2,uq J.f3,uq J.f4,uq J.f5,uq J.f6,uq J.f7,fun _=>rfl,fun h h2=>(J.f9 (un h) (by rwa [zc rfl] at h2)).below hb (Nat.le_refl _),fun h=>by obtain ⟨g,e,c⟩:=J.f10 (un h);exact ⟨g,e,fun h2=>(hb.cell (World.block_lt_of_cell? _ _ (c (by rwa [zc rfl] at h2)))).trans (c (by rwa [zc rfl] at h2))⟩,uf hAs,uq J.nA,fun _=>zg B4 hb,zg J.bel hb,uf hAp⟩⟩
    ·have hAp:L 11=false:=(Pl hcl 11 [10] hLi);have hAs:L 12=false:=(Pl hcl 12 [11,10] hLi);have B4:=J.b4 hAp;obtain rfl:=J.f3 (Fa haft 3);obtain rfl:=J.f8 (Fa haft 8);go_simp;go_wp2_with (go_at_call 56;refine (KL.out W).mono ?_;rintro e WN ⟨vt,rfl,hR,hb⟩;have hR2:=(z1X.of_owns hR).base (B':=W1.heap.size) (HBs.out J.bel.size);clear hR)
     exact e13 ⟨rfl,⟨uq J.f0,uq J.f1,uq J.f2,uq J.f3,uq J.f4,uq J.f5,uq J.f6,uq J.f7,uq J.f8,fun _ _=>hR2,(fun h=>by rw [zc rfl,(Qh hcl 10 9 hLi)] at h;cases h),uf hAs,uq J.nA,fun _=>zg B4 hb,zg J.bel hb,uf hAp⟩⟩
    ·have hAp:L 11=false:=(Qh hcl 11 10 hLi);have hAs:L 12=false:=(Pl hcl 12 [11] hLi);have B4:=J.b4 hAp;obtain ⟨a9,c9,rfl⟩:=(J.f9 (Fa haft 9) hAp).form;go_simp;exact hK _ _ (e13 ⟨rfl,⟨uq J.f0,uq J.f1,uq J.f2,uq J.f3,uq J.f4,uq J.f5,uq J.f6,uq J.f7,uq J.f8,fun h h2=>(J.f9 (un h) (by rwa [zc rfl] at h2)).below (ze (Below.refl _ _) _) (Nat.le_refl _),fun _=>⟨_,rfl,fun _=>by simp⟩,uf hAs,uq J.nA,fun _=>ze B4 _,ze J.bel _,uf hAp⟩⟩)
    ·have hAp:L 11=false:=hLi;have hAs:L 12=false:=(Qh hcl 12 11 hLi);have B4:=J.b4 hAp;obtain rfl:=J.f0 (Fa haft 0);obtain ⟨g,rfl,hg⟩:=J.f10 (Fa haft 10);have hO4:=z5R HO.out B4;have hT4:=J.f9 (by cases hz:L 9 with | true=>rfl | false=>have:=hcl 10 9 (by kernel_rfl) hz;rw [(Fa haft 10)] at this;cases this) hAp;rw [if_pos (by rfl)];refine wp_append_own _ (.tmp 24) (.tmp 34) 70 rfl W1.heap.size 74 i0 (.slice none 0 0) 1 24 Tryz.underlying70 hi0 hz0 hz1 hz2 rfl (by decide) _ _ _ rfl hO4 ⟨g,0,none⟩ 1 1 [v33] rfl rfl ?c1 ?c2 ?c3 ?c4 ?c5 ?_
     case c1 =>
      intro i u hi
      match i,hi with
      | 0,hi=>simp at hi;subst hi;simpa [Addr.add] using hg hAp
     case c2=>intro u hu;simp at hu;subst hu;obtain ⟨a9,c9,rfl⟩:=hT4.form;rfl
     case c3=>unfold maxLen;omega
     case c4=>omega
     case c5=>exact HBs.out (J.bel.size)
     intro v' w5 hown' hgrow' _;have hB5:Below W1.heap.size W1 w5:=J.bel.grown hgrow' J.bel.size (fun q hq=>HBs2.out (hO4.lt q hq).1);have hR5:=((HRs.out.kept B4).grown hO4 hgrow').next (hT4.grown hO4 hgrow');exact hK _ _ (e13 ⟨rfl,⟨uq J.f0,uq J.f1,uq J.f2,uq J.f3,uq J.f4,uq J.f5,uq J.f6,uq J.f7,uq J.f8,(fun _ h2=>by rw [zB] at h2;cases h2),(fun _=>⟨g,rfl,fun h2=>by rw [zB] at h2;cases h2⟩),uf hAs,uq J.nA,(fun h=>by rw [zB] at h;cases h),hB5,fun _=>⟨by rw [List.length_append];exact hown',hR5⟩⟩⟩)
    ·go_simp;exact hK _ _ (e13 ⟨rfl,⟨uq J.f0,uq J.f1,uq J.f2,uq J.f3,uq J.f4,uq J.f5,uq J.f6,uq J.f7,uq J.f8,u2 J.f9,ub J.f10,fun _=>rfl,(fun h=>by rw [zB] at h;cases h),uq J.b4,J.bel,uq J.ownA⟩⟩)
end
end Go.Proofs.YtggmjiddadjilalGreat
