/-
  PROVED HERE: the program's give adds to columns what is given to some of them, and takes that from what is left; nothing else that was in memory is turned. Also: 7 more texts of the same proof.
-/
import Derived.Test.YtggmjiddadjilahGreatJ32
import Derived.Test.YtggmjiddadjilahGreatJ28
set_option maxRecDepth 1000000
set_option maxHeartbeats 40000000
open Go.Proofs.Tryz
namespace Go.Proofs.YtggmjiddadjilahGreat
open Value (int)
open IntKind (i64)
section
open Go.RowKit Go.BigFrame
theorem z3z {G:List Int} (h:G.all wtB=true) (i:Nat):0<=G.getD i 0/\G.getD i 0<=100000:=by
 by_cases hi:i < G.length
 ·exact z2P h hi
 ·rw [show G.getD i 0=0 by simp [List.getD,hi]];omega
theorem z7K (sb:Nat) (ac ar:Option Addr) (cc cr:Nat) (t:T) (width:Int) (g cap C:Nat) (left:Int) (L G:List Int) (js:List Nat) (vc vg:Value) (B D B1:Nat) (hLC:L.length=C) (hjC:∀ k,k < js.length->js.getD k 0 < C) (hjl:js.length<=88) (hGl:G.length=js.length)
  (hLs:L.all wtB=true) (hGs:G.all wtB=true) (hl:0<=left/\left<=100000) (hgD:g < D) (hDs:D<=sb) (hs1:sb < B1) (w:World) (hS:Sp w sb ac ar cc cr t width g cap C left) (hR:zq w B D (.slice (some ⟨g,0,none⟩) C cap) L) (h1:zq w B1 w.heap.size vc (z3y js)) (h2:zq w B1 w.heap.size vg G) :
  Calls prog 149 #[.pointer (some ⟨sb,0,none⟩),vc,vg] w λe w'=>e=.returned (.tuple #[])/\Sp w' sb ac ar cc cr t width g cap C (left - G.sum)/\zq w' B D (.slice (some ⟨g,0,none⟩) C cap) (z0U L js G js.length)/\Bk2 g sb w w':=by
 have hmx:prog.follows .mixedOrders=true:=(by kernel_rfl);obtain ⟨a1,c1,rfl⟩:=h1.form;obtain ⟨a2,c2,rfl⟩:=h2.form;rw [z2j] at h1 |-;rw [hGl] at h2 |-;have HGl:=O hGl;have H1:=O h1;have H2:=O h2;have HS:=O hS;have HR:=O hR;have HSm:=O (λk i=>z6v (js:=js) (M:=100000) (N:=100000) (by omega) (z3z hLs) (z3z hGs) k i);have HSu:=O (z3E hGs);have HGg:=O (z3z hGs);have HjC:=O hjC;have HE:Hid (left - G.sum=left - zK G js.length):=(by rw [Hid,<-hGl,z1t]);have HSu:Hid (∀ k,k<=js.length->0<=zK G k/\zK G k<=k * 100000):=λk hk=>HSu.out k (by omega);clear h1 h2 hS hR hLs hGs hjC hGl;go_enter func149,ntmps149;go_wp2_with fail
 go_loopw [10] (λs W=>∃ k:Nat,s=int i64 k/\k<=js.length/\Hid (Sp W sb ac ar cc cr t width g cap C (left - zK G k))/\Hid (zq W B D (.slice (some ⟨g,0,none⟩) C cap) (z0U L js G k))/\Hid (Bk2 g sb w W)) (λs _=>js.length - (intOf s).toNat)
 case atStart=>exact ⟨0,rfl,nZ,by rw [show left - zK G 0=left by simp [zK]];exact HS,HR,Bk2.refl _ _ _⟩
 case round =>
  clear HS HR;obtain ⟨k,rfl,hk,HS,HR,HB⟩:=hrel;by_cases hlt:k < js.length
  case neg =>
   obtain rfl:k=js.length:=by omega
   go_wp2
   first
    | go_end0
    | skip
   exact ⟨rfl,by rw [HE.out];exact HS.out,HR.out,HB.out⟩
  obtain ⟨b1,c1',e1,hb1B,_,hb1w,hc11,hc12,hx1,_⟩:=(H1.out.bk2 HB.out (.inl (by omega)) (.inl hs1)).get (i:=k) (by rw [z2j];exact hlt);rw [z2j] at e1 hc11;rw [z9w hlt] at hx1;simp only [Value.slice.injEq,true_and] at e1;obtain ⟨rfl,rfl⟩:=e1;obtain ⟨b2,c2',e2,hb2B,_,hb2w,hc21,hc22,hx2,_⟩:=(H2.out.bk2 HB.out (.inl (by omega)) (.inl hs1)).get (i:=k) (by rw [HGl.out];exact hlt);rw [HGl.out] at e2 hc21;simp only [Value.slice.injEq,true_and] at e2;obtain ⟨rfl,rfl⟩:=e2;have hj:=HjC.out k hlt;have hgs:=z59 L js G k;obtain ⟨g',cap',e3,hgB,_,hgw,hc31,hc32,hx3,hf3⟩:=HR.out.get (i:=js.getD k 0) (by omega);rw [hgs,hLC] at e3 hc31;simp only [Value.slice.injEq,Option.some.injEq,Addr.mk.injEq,and_true,true_and] at e3;obtain ⟨rfl,rfl⟩:=e3;have hs3:=HSm.out k (js.getD k 0);have hy:=HGg.out k;have hsu:=HSu.out k (by omega);have HG1:Hid (z0U L js G (k+1)=(z0U L js G k).set (js.getD k 0) ((z0U L js G k).getD (js.getD k 0) 0+G.getD k 0)):=rfl;have HG2:Hid (left - zK G (k+1)=left - zK G k - G.getD k 0):=(by rw [Hid,z1w (by rw [HGl.out];exact hlt)];omega);unfold maxLen at hc12 hc22 hc32;have hne:=z0H wr;have m0:=zm (a:=⟨sb,6,none⟩) HS.out.lt (zf (p:=6) HS.out);have m1:=zm (a:=⟨g,js.getD k 0,none⟩) hgw hx3;have m2:=zm (a:=⟨b2,k,none⟩) hb2w hx2;generalize zK G k=su at HS hsu HG2;generalize hjj:js.getD k 0=j at *;generalize hxx:(z0U L js G k).getD j 0=x at *;generalize hyy:G.getD k 0=y at *;clear hx2 hx3 hf3;go_upto_region 3 with fail
  clear hx1;refine z1g 13 hmx (by rfl) (by rfl) (by kernel_rfl) (by kernel_rfl) ?_;simp only [List.take_succ_cons,List.take_zero];repeat (go_big_quiet_step (fail))
  refine wpQuiet_nil ?_;intro W5 hw';obtain ⟨⟨Wx,hW5⟩,hw''⟩:=hw';subst hw'';have hlj:j < (z0U L js G k).length:=(by omega);have HR5:=O ((HR.out.kept (λi h0 _ _=>hW5.block i h0)).set (i:=j) hlj (x+y));rw [<-HG1.out] at HR5;have HS5:=O ((HS.out.kept hW5).other (p:=⟨g,j,none⟩) (show sb ≠ g by omega) (int i64 (x+y)));have HB5:=O ((HB.out.trans (Bk2.of_below hW5)).set (p:=⟨g,j,none⟩) (.inl rfl) (int i64 (x+y)));obtain ⟨g5,cap5,e5,_,_,hgw5,_,_,hx5,hf5⟩:=(HR.out.kept (λi h0 _ _=>hW5.block i h0)).get (i:=j) hlj;simp only [Value.slice.injEq,Option.some.injEq,Addr.mk.injEq,and_true] at e5;have eg:=e5.1;clear e5;subst eg;clear m0 m1 m2 hne hW5 HR HS HB HG1 hs3;rw [if_pos (by rfl)];go_simp;clear hx5 hf5;go_upto_region 4 with fail
  generalize W5.setCell ⟨g,j,none⟩ (int i64 (x+y))=W6 at HR5 HS5 HB5 |-;obtain ⟨b2',c2'',e2,_,_,hb2w',_,_,hx2,_⟩:=(H2.out.bk2 HB5.out (.inl (by omega)) (.inl hs1)).get (i:=k) (by rw [HGl.out];exact hlt);rw [HGl.out] at e2;simp only [Value.slice.injEq,Option.some.injEq,Addr.mk.injEq,and_true,true_and] at e2;obtain ⟨rfl,rfl⟩:=e2;rw [hyy] at hx2;have hne:=z0H W6;have m0:=zm (a:=⟨sb,7,none⟩) HS5.out.lt (zf (p:=7) HS5.out);have m2:=zm (a:=⟨b2,k,none⟩) hb2w' hx2;clear hx2;refine z1g 11 hmx (by rfl) (by rfl) (by kernel_rfl) (by kernel_rfl) ?_;simp only [List.take_succ_cons,List.take_zero];repeat (go_big_quiet_step (fail))
  refine wpQuiet_nil ?_;intro W7 hw';obtain ⟨⟨Wy,hW7⟩,hw''⟩:=hw';subst hw'';have HR7:=O ((HR5.out.kept (λi h0 _ _=>hW7.block i h0)).kept (w':=W7.setCell ⟨sb,7,none⟩ (int i64 (left - su - y))) (λi _ _ h2=>bS (show i ≠ sb by omega)));have HS7:=O ((HS5.out.kept hW7).left (left - su - y));have HB7:=O ((HB5.out.trans (Bk2.of_below hW7)).set (p:=⟨sb,7,none⟩) (.inr rfl) (int i64 (left - su - y)));have hq7:W7.cell? ⟨sb,7,none⟩=some (int i64 (left - su)):=zf (p:=7) (HS5.out.kept hW7);have hf7:W7.frozen? ⟨sb,7,none⟩=false:=zS (p:=7) (HS5.out.kept hW7);clear m0 m2 hne hW7 HR5 HS5 HB5;rw [if_pos (by rfl)];go_simp;go_wp2;go_roundw
  case rel=>exact ⟨k+1,by go_num,by omega,by rw [HG2.out];exact HS7,HR7,HB7⟩
  case measure=>simp [intOf];omega
def z4C (t:T) (C:Nat) (left:Int) (L:List Int):List Int :=
 if 0 < (zn (zo t 0) C).length then z1o L (zy left (z0G (zo t 0) C)) else if 0 < (zn (zo t 2) C).length then z1o L (zy left (z0G (zo t 2) C)) else L
theorem zb4:∀ {l:List Int},(∀ x ∈ l,0<=x)->0<=l.sum
 | [],_=>by simp
 | a :: r,h=>by
  have h1:=h a (by simp);have h2:=zb4 (l:=r) (λx hx=>h x (by simp [hx]));simp only [List.sum_cons];omega
theorem zhd:∀ {l:List Int},(∀ x ∈ l,0<=x)->∀ x ∈ l,x<=l.sum
 | [],_,x,hx=>by cases hx
 | a :: r,h,x,hx=>by
  have h1:=h a (by simp);have h2:=zb4 (l:=r) (λx hx=>h x (by simp [hx]));simp only [List.sum_cons]
  rcases List.mem_cons.1 hx with rfl | hx
  ·omega
  ·have:=zhd (l:=r) (λx hx=>h x (by simp [hx])) x hx;omega
theorem zao {l:List Int} (h:∀ i,i < l.length->0<=l.getD i 0) {i:Nat} (hi:i < l.length):l.getD i 0<=l.sum:=by
 rw [show l.getD i 0=l[i] by simp [List.getD,hi]];refine zhd (λx hx=>?_) _ (List.getElem_mem hi);obtain ⟨j,hj,rfl⟩:=List.mem_iff_getElem.1 hx;have:=h j hj
 rwa [show l.getD j 0=l[j] by simp [List.getD,hj]] at this
theorem zap {L:List Int} {P:Nat->Bool} {left:Int} {C:Nat} (hLC:L.length=C) (hC:C<=88) (ht:0<=left/\left<=100000) :
  zI left (List.replicate (zn P C).length 0)=true/\(zy left (List.replicate (zn P C).length 0)).length=(zn P C).length/\(zy left (List.replicate (zn P C).length 0)).all wtB=true /\
  (0 < (zn P C).length->z0U L (zn P C) (zy left (List.replicate (zn P C).length 0)) (zn P C).length=z1o L (zy left (z0G P C)))/\((zn P C).length=0->z0U L (zn P C) (zy left (List.replicate (zn P C).length 0)) (zn P C).length=L):=by
 have hnl:=z4m P C;have hok:zI left (List.replicate (zn P C).length 0)=true:=zfl ht (by simp;omega) (λi hi=>by rw [List.length_replicate] at hi;simp [List.getD,hi]);have hl:=z1B hok;rw [List.length_replicate] at hl;refine ⟨hok,hl,?_,λh0=>?_,λh0=>by rw [h0];rfl⟩
 ·by_cases h0:0 < (zn P C).length
  ·refine z6w (λi hi=>?_);have h1:=z1G (t:=left) (l:=List.replicate (zn P C).length 0) i hi;have h2:=z3m hok (by simpa using h0);have h3:=zao (l:=zy left (List.replicate (zn P C).length 0)) (λj hj=>(z1G (t:=left) (l:=List.replicate (zn P C).length 0) j hj).1) hi;omega
  ·have:zy left (List.replicate (zn P C).length 0)=[]:=List.eq_nil_of_length_eq_zero (by omega);rw [this];rfl
 ·rw [zab P ht (by omega) h0];have hok1:=z3j P (n:=C) ht (by omega);have h1:=z1B hok1;rw [z14] at h1;have:=zdh (l:=L) (z0r:=zy left (z0G P C)) (P:=P) (by omega) (λi hi hP=>z5Z hok1 (by rw [z9v];omega) (by rw [z14];omega) (by rw [z5x (by omega),if_neg (by rw [hP];simp)]));rw [hLC] at this;exact this
theorem zcf (w0:World) (sb:Nat) (ac ar:Option Addr) (cc cr:Nat) (t:T) (width:Int) (g cap C D:Nat) (left:Int) (L:List Int) {z:Nat} (hc:z09 w0 z (.slice ac t.cols.length cc) t.cols) (hC:C<=88) (hLC:L.length=C) (hLs:L.all wtB=true) (hg0:w0.heap.size<=g) (hgD:g < D) (hDs:D<=sb) (hleft:0<=left/\left<=100000) (w:World) (h:SpS w0 sb ac ar cc cr t width g cap C D left L w) :
  Calls prog 126 #[.pointer (some ⟨sb,0,none⟩)] w λe w'=>e=.returned (.tuple #[])/\(∃ left',SpS w0 sb ac ar cc cr t width g cap C D left' (z4C t C left L) w')/\Bk2 g sb w w':=by
 have H:=O h;have hsbw:sb < w.heap.size:=h.sp.lt;have HB0:=O (Below.refl w.heap.size w);have KO:=O (λq W (h:SpS w0 sb ac ar cc cr t width g cap C D left L W)=>z7J sb ac ar cc cr t width g cap C left q hC W h.sp (hc.kept h.bel));clear h hc;by_cases hn0:0 < (zn (zo t 0) C).length
 ·have hne:(((zn (zo t 0) C).length:Int) == 0)=false:=beq_eq_false_iff_ne.2 (by omega);go_enter func126,ntmps126;go_wp2_with fail
  refine (KO.out 0 _ H.out).mono ?_;rintro e w1 ⟨v1,rfl,hr1,hb1⟩;obtain ⟨a1,c1,rfl⟩:=hr1.form;rw [z2j] at hr1 |-;have HS1:=O (H.out.kept hb1);have HB1:=O (zi HB0.out hb1);have HR1:=O hr1;have hz1:=hb1.size;have hmk:=z5I (zn (zo t 0) C).length (by have:=z4m (zo t 0) C;omega);have hnl:=z4m (zo t 0) C;obtain ⟨ok1,len1,all1,give1,give0⟩:=zap (P:=zo t 0) (L:=L) (left:=left) hLC hC hleft;have HLt:=O (λk (hk:k < (zn (zo t 0) C).length)=>(z8R hk).1)
  have HFin:Hid (z0U L (zn (zo t 0) C) (zy left (List.replicate (zn (zo t 0) C).length 0)) (zn (zo t 0) C).length=z4C t C left L):=by
   rw [Hid,z4C];rw [if_pos hn0];exact give1 hn0
  have HA1:=O all1;have HLn:=O len1;have HOk:=O ok1;generalize zn (zo t 0) C=js at hr1 HR1 hmk hnl HLt HFin HA1 HLn HOk hne hn0 |-;clear hr1 hb1 ok1 len1 all1 give1 give0;have hA2:=ze (Below.refl w1.heap.size w1) (.cells (z1l js.length) 3);have HN:=O (z4n w1 js.length (by omega));have hn2:(w1.alloc (.cells (z1l js.length) 3)).heap.size=w1.heap.size+1:=(by simp);have HS2:=O (HS1.out.kept hA2);have HR2:=O (HR1.out.kept (w':=w1.alloc (.cells (z1l js.length) 3)) (λj h0 _ _=>hA2.block j h0));have HB2:=O (zi HB1.out hA2);clear HS1 HR1 HB1 hA2;go_upto_region 4 with fail
  generalize w1.alloc (.cells (z1l js.length) 3)=W2 at HN HS2 HR2 HB2 hn2 |-;generalize w1.heap.size=gb at HN HR2 hn2 hz1 |-;have s7:W2.cell? ⟨sb,7,none⟩=some (int i64 left):=zf (p:=7) HS2.out.sp;have KU:=O (z5c left _ _ HOk.out W2 HN.out.at);go_wp2_with fail
  refine KU.out.mono ?_;rintro e w5 ⟨v5,rfl,hr5,hb5⟩;obtain ⟨a5,c5,rfl⟩:=hr5.form;have hz5:=hb5.size;generalize zy left (List.replicate js.length 0)=G at hr5 HFin HA1 HLn KU |-;have KG:=O (z7K sb ac ar cc cr t width g cap C left L G js (.slice a1 js.length c1) (.slice a5 G.length c5) w0.heap.size D w.heap.size hLC HLt.out (by omega) HLn.out hLs HA1.out hleft hgD hDs hsbw w5 (HS2.out.kept hb5).sp (HS2.out.kept hb5).row ((HR2.out.kept (λj h0 _ _=>hb5.block j h0)).base (by omega) (by omega)) (hr5.base (by omega) lR));have HB6:=O (zi HB2.out hb5);have HL6:=O ((HS2.out.kept hb5).bel);clear KU s7;go_wp2_with fail
  refine KG.out.mono ?_;rintro e w6 ⟨rfl,hs6,hr6,hb6⟩;have HF6:=O (SpS.mk (HL6.out.trans (hb6.below HL6.out.size hg0 (by omega))) hs6 hr6);rw [HFin.out] at HF6;have HK6:=O ((Bk2.of_below HB6.out).trans hb6);clear hs6 hr6 hb6;go_wp2
  go_end0
  exact ⟨rfl,⟨_,HF6.out⟩,HK6.out⟩
 ·have hl0:(zn (zo t 0) C).length=0:=(by omega);go_enter func126,ntmps126;go_wp2_with fail
  refine (KO.out 0 _ H.out).mono ?_;rintro e wa ⟨va,rfl,hra,hba⟩;obtain ⟨aa,ca,rfl⟩:=hra.form;rw [z2j,hl0] at hra |-;have Ha:=O (H.out.kept hba);have HBa:=O hba;have hza:=hba.size;clear hra hba;go_wp2_with fail
  refine (KO.out 2 _ Ha.out).mono ?_;rintro e w1 ⟨v1,rfl,hr1,hb1⟩;obtain ⟨a1,c1,rfl⟩:=hr1.form;rw [z2j] at hr1 |-;have HS1:=O (Ha.out.kept hb1);have HB1:=O (zi HBa.out hb1);have HR1:=O hr1;have hz1:=hb1.size;have hmk:=z5I (zn (zo t 2) C).length (by have:=z4m (zo t 2) C;omega);have hnl:=z4m (zo t 2) C;obtain ⟨ok1,len1,all1,give1,give0⟩:=zap (P:=zo t 2) (L:=L) (left:=left) hLC hC hleft;have HLt:=O (λk (hk:k < (zn (zo t 2) C).length)=>(z8R hk).1)
  have HFin:Hid (z0U L (zn (zo t 2) C) (zy left (List.replicate (zn (zo t 2) C).length 0)) (zn (zo t 2) C).length=z4C t C left L):=by
   rw [Hid,z4C];rw [if_neg hn0];by_cases hn2:0 < (zn (zo t 2) C).length
   ·rw [if_pos hn2];exact give1 hn2
   ·rw [if_neg hn2];exact give0 (by omega)
  have HA1:=O all1;have HLn:=O len1;have HOk:=O ok1;generalize zn (zo t 2) C=js at hr1 HR1 hmk hnl HLt HFin HA1 HLn HOk |-;clear hr1 hb1 ok1 len1 all1 give1 give0;have hA2:=ze (Below.refl w1.heap.size w1) (.cells (z1l js.length) 3);have HN:=O (z4n w1 js.length (by omega));have hn2:(w1.alloc (.cells (z1l js.length) 3)).heap.size=w1.heap.size+1:=(by simp);have HS2:=O (HS1.out.kept hA2);have HR2:=O (HR1.out.kept (w':=w1.alloc (.cells (z1l js.length) 3)) (λj h0 _ _=>hA2.block j h0));have HB2:=O (zi HB1.out hA2);clear HS1 HR1 HB1 hA2;go_upto_region 4 with fail
  generalize w1.alloc (.cells (z1l js.length) 3)=W2 at HN HS2 HR2 HB2 hn2 |-;generalize w1.heap.size=gb at HN HR2 hn2 hz1 |-;have s7:W2.cell? ⟨sb,7,none⟩=some (int i64 left):=zf (p:=7) HS2.out.sp;have KU:=O (z5c left _ _ HOk.out W2 HN.out.at);go_wp2_with fail
  refine KU.out.mono ?_;rintro e w5 ⟨v5,rfl,hr5,hb5⟩;obtain ⟨a5,c5,rfl⟩:=hr5.form;have hz5:=hb5.size;generalize zy left (List.replicate js.length 0)=G at hr5 HFin HA1 HLn KU |-;have KG:=O (z7K sb ac ar cc cr t width g cap C left L G js (.slice a1 js.length c1) (.slice a5 G.length c5) w0.heap.size D w.heap.size hLC HLt.out (by omega) HLn.out hLs HA1.out hleft hgD hDs hsbw w5 (HS2.out.kept hb5).sp (HS2.out.kept hb5).row ((HR2.out.kept (λj h0 _ _=>hb5.block j h0)).base (by omega) (by omega)) (hr5.base (by omega) lR));have HB6:=O (zi HB2.out hb5);have HL6:=O ((HS2.out.kept hb5).bel);clear KU s7;go_wp2_with fail
  refine KG.out.mono ?_;rintro e w6 ⟨rfl,hs6,hr6,hb6⟩;have HF6:=O (SpS.mk (HL6.out.trans (hb6.below HL6.out.size hg0 (by omega))) hs6 hr6);rw [HFin.out] at HF6;have HK6:=O ((Bk2.of_below HB6.out).trans hb6);clear hs6 hr6 hb6;go_wp2
  go_end0
  exact ⟨rfl,⟨_,HF6.out⟩,HK6.out⟩
end
section
open Go.RowKit
theorem zbY {L M:List Int} (hl:M.length=L.length) (hs:M.sum=0) (hp:∀ i,i < M.length->0<=M.getD i 0):z1o L M=L:=by
 apply zdp (z5y hl);intro i hi;rw [z5y hl] at hi;rw [z4I hl hi];have h1:=zao hp (i:=i) (by omega);have h2:=hp i (by omega);omega
theorem zhe {L want:List Int} (hl:want.length=L.length) (hok:zI 0 want=true):z1o L (z0F 0 want)=L/\z2l 0 want=0:=by
 obtain ⟨a1,a2,a3,a4,a5⟩:=z25 hok;have hp:∀ i,i < (z0F 0 want).length->0<=(z0F 0 want).getD i 0:=λi hi=>(a5 i (by omega)).1
 have hs:0<=(z0F 0 want).sum:=zb4 (λx hx=>by
  obtain ⟨j,hj,rfl⟩:=List.mem_iff_getElem.1 hx;have:=hp j hj
  rwa [show (z0F 0 want).getD j 0=(z0F 0 want)[j] by simp [List.getD,hj]] at this)
 exact ⟨zbY (by omega) (by omega) hp,by omega⟩
theorem zaq {L:List Int} {P:Nat->Bool} {C:Nat} (hLC:L.length=C) (hC:C<=88) (h0:0 < (zn P C).length):z1o L (zy 0 (z0G P C))=L:=by
 have hok:=z3j P (n:=C) (t:=0) (by omega) (by omega);have hl:=z1B hok;rw [z14] at hl;have hC0:0 < C:=(by have:=z4m P C;omega);exact zbY (by omega) (z3m hok (by rw [z14];exact hC0)) (λi hi=>(z1G i hi).1)
theorem zhf {t:T} {C:Nat} {L:List Int} (hLC:L.length=C) (hC:C<=88):z4C t C 0 L=L:=by
 unfold z4C
 split
 ·rename_i h;exact zaq hLC hC h
 ·split
  ·rename_i h;exact zaq hLC hC h
  ·rfl
theorem z9x {t:T} {width:Int} (h:0 < z0D t width):z08 t width=z4C t (zG t) (z1N t width) (z1W t width):=by
 unfold z08 z4C;rw [if_neg (by omega)]
theorem zeK {t:T} (hD:z0g t) (hok:zF t=true) {width:Int} (hw:0<=width/\width<=300) (hC:zG t<=88) (h:0 < z0D t width) (h2:z1N t width<=0):z08 t width=z1W t width:=by
 obtain ⟨_,_,hl2,_,ho2,_⟩:=z47 hD hok hw h;have e:z1N t width=0:=(by omega);rw [z9x h,e,zhf ho2 hC]
theorem zjQ {t:T} (hD:z0g t) (hok:zF t=true) {width:Int} (hw:0<=width/\width<=300) (hC:zG t<=88) (h:0 < z0D t width) (h1:z1M t width<=0):z08 t width=z13 t width:=by
 obtain ⟨ok1,ok2,hl2,ho1,ho2,_⟩:=z47 hD hok hw h
 have e:z1M t width=0:=by
  have:=(z25 ok1).2.2.1;unfold z1M at h1 |-;omega
 have e2:z1W t width=z13 t width/\z1N t width=0:=by
  unfold z1W z1N;rw [e] at ok2 |-;exact zhe (z2L _ _) ok2
 rw [zeK hD hok hw hC h (by omega),e2.1]
theorem zhg {t:T} {width:Int} (h:z0D t width<=0):z08 t width=zB t:=by unfold z08;rw [if_pos h]
theorem zhh {t:T} (hD:z0g t) (hok:zF t=true) {width:Int} (hw:0<=width/\width<=300) (h:0 < z0D t width) {j:Nat} (hj:j < zG t) (hP:zo t 0 j=true):(z13 t width).getD j 0<=(z24 t).getD j 0:=by
 obtain ⟨_,_,_,_,_,_,hk⟩:=z47 hD hok hw h
 have h2:zo t 2 j=false:=by
  simp only [zo,decide_eq_true_eq] at hP;simp [zo,hP]
 rw [(hk j hj).2.2.1 h2];have:=zbP hj;omega
theorem zar {t:T} (hD:z0g t) (hok:zF t=true) {width:Int} (hw:0<=width/\width<=300) (h:0 < z0D t width):(z13 t width).all wtB=true/\(z1W t width).all wtB=true:=by
 obtain ⟨ok1,ok2,_,ho1,ho2,_⟩:=z47 hD hok hw h;have hup:=z44 hD;obtain ⟨a1,a2,a3,a4,a5⟩:=z25 ok1;obtain ⟨b1,b2,b3,b4,b5⟩:=z25 ok2;rw [z38] at a1 a5;rw [z2L] at b1 b5;have hr:z0D t width<=100000:=(z0d ok1).1.2;have hl:z1M t width<=100000:=(z0d ok2).1.2;have hll:=z1m t
 have s1:∀ i,i < zG t->0<=(z13 t width).getD i 0/\(z13 t width).getD i 0<=5300:=λi hi=>by
  have h1:=a5 i (by omega);have h2:=hup i (by omega);have h3:(z13 t width).getD i 0=(zB t).getD i 0+(z0F (z0D t width) (z11 t width (zB t))).getD i 0:=(by unfold z13;exact z4I (by omega) (by omega));rw [z4X (by omega)] at h1;have hk:=z7a (t:=t) hi;have hps:=λhn=>zac hw (n:=(sd t.cols i).2) hn
  split at h1
  ·rename_i hP
   simp only [zo,decide_eq_true_eq] at hP;have:=hps (by omega);omega
  ·omega
 refine ⟨z6w (λi hi=>by have:=s1 i (by omega);omega),z6w (λi hi=>?_)⟩;have h1:=b5 i (by omega);have h2:=s1 i (by omega);have h3:(z1W t width).getD i 0=(z13 t width).getD i 0+(z0F (z1M t width) (z12 t (z13 t width))).getD i 0:=(by unfold z1W;exact z4I (by omega) (by omega));rw [z4Y (by omega)] at h1;have h4:=z7E hD i (by rw [z5P];omega)
 split at h1 <;> omega
theorem z49 {t:T} (hD:z0g t) (hok:zF t=true):1<=zG t/\zG t<=88/\z1P (zB t) t.gap=(zB t).sum+t.gap * ((zG t:Int) - 1)/\0<=z1P (zB t) t.gap/\z1P (zB t) t.gap<=1000000/\(zB t).all wtB=true:=by
 obtain ⟨_,C,hgc,hC,hcel⟩:=z35 hD;have hCN:=z4k hgc;have hlen:=z1m t;have hup:=z44 hD;have hall:(zB t).all wtB=true:=z6w (λi hi=>by have:=hup i hi;omega);have hs:=z2G hall
 have hC1:1<=zG t:=by
  have h1:(Z t).cols=z0x (max 1 (t.cols.length:Int)) (zU t):=(by rw [z2z hok]);have h2:=z3Z (zU t) (max 1 (t.cols.length:Int));unfold zG;omega
 have hg:0<=t.gap/\t.gap<=3:=by
  simp only [zF,zM,Bool.and_eq_true,decide_eq_true_eq] at hok;exact hok.2.2.1
 have hg1:0<=t.gap * ((zG t:Int) - 1):=Int.mul_nonneg hg.1 (by omega);have hg2:t.gap * ((zG t:Int) - 1)<=3 * 87:=Int.mul_le_mul hg.2 (by omega) (by omega) (by omega);have hsb:=z5t (l:=zB t) (B:=5000) (λx hx=>hup.mem hx)
 have e:z1P (zB t) t.gap=(zB t).sum+t.gap * ((zG t:Int) - 1):=by
  rw [z3k (by omega),hlen,z32 (by omega)]
 refine ⟨hC1,by omega,e,by omega,?_,hall⟩;rw [e];omega
theorem z9d {t:Int} {l:List Int} (hok:zI t l=true) (h0:0 < l.length):(zy t l).all wtB=true:=by
 have ht:=(z0d hok).1;refine z6w (λi hi=>?_);have h1:=z1G (t:=t) (l:=l) i hi;have h2:=z3m hok h0;have h3:=zao (l:=zy t l) (λj hj=>(z1G (t:=t) (l:=l) j hj).1) hi;omega
end
section
open Go.RowKit Go.BigFrame
theorem ziM {t:T} {width:Int} {L:List Int} {i:Nat} (hi:i < (z11 t width L).length) (hP:zo t 2 i=false):(z11 t width L).getD i 0=0:=by
 rw [z4X (by rw [z38] at hi;exact hi),if_neg (by rw [hP];simp)]
theorem ziN {t:T} {j:Nat} (h:zo t 2 j=true):j < t.cols.length/\sd t.cols j=t.cols.getD j (0,0):=by
 by_cases hj:j < t.cols.length
 ·exact ⟨hj,z8p hj⟩
 ·rw [zo,zaa (z33 (by omega))] at h;simp at h
theorem ze6 (w0:World) (sb:Nat) (ac ar:Option Addr) (cc cr:Nat) (t:T) (width:Int) (g cap C D:Nat) (left:Int) (L:List Int) {z:Nat} (hc:z09 w0 z (.slice ac t.cols.length cc) t.cols) (hC:C<=88) (hCt:C=zG t) (hLC:L.length=C) (hLs:L.all wtB=true) (hg0:w0.heap.size<=g) (hgD:g < D) (hDs:D<=sb) (hw:0<=width/\width<=300) (hok:zI left (z11 t width L)=true) (w:World) (h:SpS w0 sb ac ar cc cr t width g cap C D left L w) :
  Calls prog 124 #[.pointer (some ⟨sb,0,none⟩)] w λe w'=>e=.returned (.tuple #[])/\SpS w0 sb ac ar cc cr t width g cap C D (z2l left (z11 t width L)) (z1o L (z0F left (z11 t width L))) w'/\Bk2 g sb w w':=by
 have hmx:prog.follows .mixedOrders=true:=(by kernel_rfl);obtain ⟨ok1,len1,all1,sum1,give1⟩:=zaj (P:=zo t 2) (z38 t width L) hok (λi hi hP=>ziM hi hP);rw [hLC] at ok1 len1 all1 sum1 give1;have HTl:=O (z2i (z11 t width L) (zo t 2) C);have HTg:=O (λk (hk:k < (zn (zo t 2) C).length)=>z45 (l:=z11 t width L) hk);have HW:=O (λj (hj:j < C) (hP:zo t 2 j=true)=>(z4X (t:=t) (width:=width) (l:=L) (k:=j) (by omega)).trans (if_pos hP));have HKd:=O (λj (hj:j < C)=>z7a (t:=t) (k:=j) (by omega));have HLt:=O (λk (hk:k < (zn (zo t 2) C).length)=>z8R hk);have hnl:=z4m (zo t 2) C;have HC:=O hc;have H:=O h;have KO:=O (z7J sb ac ar cc cr t width g cap C left 2 hC w h.sp (hc.kept h.bel));have hmk:=z5I (zn (zo t 2) C).length (by omega);have HG1:=O give1;have HSum:=O sum1;have HA1:=O all1;have HLn:=O len1;have hleft:=(z0d hok).1;have HOk:=O ok1;generalize zn (zo t 2) C=js at *;generalize hT:z0k (z11 t width L) (zo t 2) C=T at *;clear h hc give1 sum1 all1 len1 ok1 hok hT;have hTl:=HTl.out;go_enter func124,ntmps124;go_wp2_with fail
 refine KO.out.mono ?_;rintro e w1 ⟨v1,rfl,hr1,hb1⟩;obtain ⟨a1,c1,rfl⟩:=hr1.form;rw [z2j] at hr1 |-;have HR1:=O hr1;have HS1:=O (H.out.kept hb1);have HB1:=O hb1;have hz1:=hb1.size;clear hr1 hb1 KO;have hn2:(w1.alloc (.cells (z1l js.length) 3)).heap.size=w1.heap.size+1:=(by simp);have HN:=O (z4n w1 js.length (by omega));have hA2:=ze (Below.refl w1.heap.size w1) (.cells (z1l js.length) 3);go_upto_region 2 with fail
 have HS2:=O (HS1.out.kept hA2);have HR2:=O (HR1.out.kept (w':=w1.alloc (.cells (z1l js.length) 3)) (λj h0 _ _=>hA2.block j h0));have HB2:=O (zi HB1.out hA2);have hD2:D<=w1.heap.size:=(by have:=HS1.out.sp.lt;omega);have hsb1:sb < w1.heap.size:=HS1.out.sp.lt;have hsbw:sb < w.heap.size:=H.out.sp.lt;have hw0:w0.heap.size<=w1.heap.size:=HS1.out.bel.size;clear HS1 HR1 HB1 hA2 H;generalize w1.alloc (.cells (z1l js.length) 3)=W2 at HN HS2 HR2 HB2 hn2 |-;generalize w1.heap.size=gb at HN HR2 hn2 hD2 hsb1 hz1 hw0 |-;go_wp2_with fail
 go_loopw [16] (λs W=>∃ k:Nat,s=int i64 k/\k<=js.length/\Hid (zq W gb (gb+1) (.slice (some ⟨gb,0,none⟩) js.length js.length) (z5b T k))/\Hid (Bk gb W2 W)) (λs _=>js.length - (intOf s).toNat)
 case atStart=>exact ⟨0,rfl,nZ,by rw [zah,hTl];exact HN,Bk.refl _ _⟩
 case round =>
  clear HN;obtain ⟨k,rfl,hk,HF,HB⟩:=hrel;have HS:=O (HS2.out.bk HB.out hw0 (by omega) hD2);have HR:=O (HR2.out.kept (λj h0 _ h2=>HB.out.block j h0 (by omega)));by_cases hlt:k < js.length
  case pos =>
   obtain ⟨b1,c1',e1,hb1B,_,hb1w,hc11,hc12,hx1,_⟩:=HR.out.get (i:=k) (by rw [z2j];exact hlt);rw [z2j] at e1 hc11;rw [z9w hlt] at hx1;simp only [Value.slice.injEq,true_and] at e1;obtain ⟨rfl,rfl⟩:=e1;obtain ⟨hjC,hjP⟩:=HLt.out k hlt;have hTk:=HTg.out k hlt;have hjj:js[k]=js.getD k 0:=(by simp [List.getD,hlt]);rw [hjj] at hTk;rw [HW.out _ hjC hjP] at hTk;obtain ⟨hjc,hsd⟩:=ziN hjP;have hkd:=HKd.out _ hjC;have hk2:(sd t.cols (js.getD k 0:Nat)).1=2:=(by simpa [zo] using hjP);rw [hsd] at hTk hkd hk2;obtain ⟨b,off,cap2,e2,hc21,hc22,hbl,hy0,hy1⟩:=At.get (HC.out.kept HS.out.bel) hjc;simp only [Value.slice.injEq,true_and] at e2;obtain ⟨rfl,rfl⟩:=e2;obtain ⟨g',cap',e3,_,_,hgw,hc31,hc32,hx3,_⟩:=HS.out.row.get (i:=js.getD k 0) (by omega);rw [hLC] at e3 hc31;simp only [Value.slice.injEq,Option.some.injEq,Addr.mk.injEq,and_true,true_and] at e3;obtain ⟨rfl,rfl⟩:=e3;have hxs:=z3z hLs (js.getD k 0);generalize js.getD k 0=j at *;generalize t.cols.getD j (0,0)=p at *;generalize L.getD j 0=x at *;have hp2:1<=p.2/\p.2<=100:=(by omega);have hm0:0<=width * p.2:=Int.mul_nonneg hw.1 (by omega);have hm1:width * p.2<=30000:=Int.le_trans (Int.mul_le_mul hw.2 hp2.2 (by omega) (by omega)) (by omega);have hq:Int.tdiv (width * p.2) 100=width * p.2 / 100:=Int.tdiv_eq_ediv_of_nonneg hm0;unfold maxLen at hc12 hc22 hc32;have HFx:=O (zai (l:=T) (k:=k) (by omega));rw [hTk] at HFx;have hne:=z0H wr;have m0:=zm (a:=⟨sb,5,none⟩) HS.out.sp.lt (zf (p:=5) HS.out.sp);have m1:=zm (a:=⟨sb,0,none⟩) HS.out.sp.lt (zf (p:=0) HS.out.sp);have m2:=zm hbl hy1;have HX:=O (And.intro hgw hx3);clear hy0 hy1 hx3 hTk hsd hkd hk2 hjP;go_upto_region 5 with fail
   clear hx1;refine zv hmx (by kernel_rfl) ?_;repeat (go_big_quiet_step (fail))
   refine wpQuiet_nil ?_;intro W5 hw';obtain ⟨⟨Wx,hW5⟩,hw''⟩:=hw';subst hw'';have s6:W5.cell? ⟨sb,6,none⟩=some (.slice (some ⟨g,0,none⟩) C cap):=zf (p:=6) (HS.out.sp.kept hW5);have gx:W5.cell? ⟨g,j,none⟩=some (int i64 x):=(hW5.cell (p:=⟨g,j,none⟩) HX.out.1).trans HX.out.2;have HF5:=O (HF.out.kept (λi h0 _ _=>hW5.block i h0));have HB5:=O (HB.out.trans (Bk.of_below hW5));obtain ⟨g5,cap5,e5,_,_,hgw5,_,_,hx5,hf5⟩:=HF5.out.get (i:=k) (by rw [z6N T (by omega)];omega);simp only [Value.slice.injEq,Option.some.injEq,Addr.mk.injEq,and_true] at e5;have eg:=e5.1;clear e5;subst eg;have HF6:=O (HF5.out.set (i:=k) (by rw [z6N T (by omega)];omega) (max 0 (width * p.2 / 100 - x)));rw [<-HFx.out] at HF6;have hyb:0<=width * p.2 / 100/\width * p.2 / 100<=300:=(by omega);generalize width * p.2 / 100=y at *;clear m0 m1 m2 hne hW5 HX HF HB HF5 HFx;go_wp2;go_roundw
   case rel=>exact ⟨k+1,by go_num,by omega,HF6,HB5.out.set (p:=⟨gb,k,none⟩) (.inl rfl) _⟩
   case measure=>simp [intOf];omega
  case neg =>
   obtain rfl:k=js.length:=by omega
   have s7:wr.cell? ⟨sb,7,none⟩=some (int i64 left):=zf (p:=7) HS.out.sp;have HF':Hid (zq wr gb (gb+1) (.slice (some ⟨gb,0,none⟩) js.length js.length) T):=(by rw [<-zbV T,hTl];exact HF);have KU:=O (z7V left _ T HOk.out wr HF'.out.at);go_wp2_with fail
   refine KU.out.mono ?_;rintro e w5 ⟨v5,rfl,hr5,hb5⟩;obtain ⟨a5,c5,rfl⟩:=hr5.form;have hz5:=hb5.size;have hzr:=HB.out.size;have KG:=O (z7K sb ac ar cc cr t width g cap C left L (z0F left T) js (.slice a1 js.length c1) (.slice a5 (z0F left T).length c5) w0.heap.size D w.heap.size hLC (λk hk=>(HLt.out k hk).1) (by omega) HLn.out hLs HA1.out hleft hgD hDs hsbw w5 (HS.out.kept hb5).sp (HS.out.kept hb5).row ((HR.out.kept (λj h0 _ _=>hb5.block j h0)).base lR (by omega)) (hr5.base (by omega) lR));have HB6:=O ((HB2.out.trans (HB.out.below (n:=w.heap.size) (by omega) (by omega))).trans (hb5.mono (by omega)));have HL6:=O ((HS.out.kept hb5).bel);clear KU s7;go_wp2_with fail
   refine KG.out.mono ?_;rintro e w6 ⟨rfl,hs6,hr6,hb6⟩;have HF6:=O (SpS.mk (HL6.out.trans (hb6.below HL6.out.size hg0 (by omega))) hs6 hr6);rw [HSum.out,HG1.out] at HF6;have HK6:=O ((Bk2.of_below HB6.out).trans hb6);clear hs6 hr6 hb6;go_wp2
   go_end0
   exact ⟨rfl,HF6.out,HK6.out⟩
theorem z7c (F:Nat) (hF:F=144\/F=157) (nd:ByteArray->Int) (hnd:∀ s,0<=nd s/\nd s<=30) (KN:∀ (s:ByteArray) (W:World),s.size<=maxLen->Calls prog F #[.string s] W λe w'=>e=.returned (int i64 (nd s))/\Below W.heap.size W w')
  (ac ar:Option Addr) (cc cr:Nat) (t:T) (hD:z0g t) (w:World) {z:Nat} (hc:z09 w z (.slice ac t.cols.length cc) t.cols) (hr:z05 w z (.slice ar t.rows.length cr) t.rows) (C:Nat) (hgc:(Z t).cols=C) :
  Calls prog 143 #[.agg #[.slice ac t.cols.length cc,int i64 t.head,int i64 t.foot,.slice ar t.rows.length cr,int i64 t.gap],.func (.func F) #[] #[]] w λe w'=>∃ v,e=.returned v/\zq w' w.heap.size w'.heap.size v (z0T (λx=>nd (zR t x)) t.gap (Z t).cells (z02 C) 4)/\Below w.heap.size w w':=by
 rcases hF with rfl | rfl
 all_goals
  obtain ⟨h40,C',hgc',hC88,hcel⟩:=z35 hD;obtain rfl:C'=C:=by rw [hgc'] at hgc;omega
  have K0:=ze (Below.refl w.heap.size w) (.cells #[.slice ac t.cols.length cc,int i64 t.head,int i64 t.foot,.slice ar t.rows.length cr,int i64 t.gap] 26);have HN:=O KN;have HCel:=O hcel;have HDr:=O hD;have HGC:=O hgc';have hup:=z8N (p:=λx=>nd (zR t x)) (l:=z02 C') hcel h40 (by simp [z02]) (λx=>(hnd _).2) (zaS _);have HUp:=O hup;have hps:=λs hs=>z8M (p:=λx=>nd (zR t x)) (s:=((s+1:Nat):Int)) (l:=z0T (λx=>nd (zR t x)) t.gap (Z t).cells (z02 C') s) hcel (by rw [z3v];simp [z02]) (λx=>(hnd _).2) (hup s hs);have HPs:=O hps;have HT:=O (And.intro (hc.kept K0) (hr.kept K0));have HX:=O (zj w (.cells #[.slice ac t.cols.length cc,int i64 t.head,int i64 t.foot,.slice ar t.rows.length cr,int i64 t.gap] 26));have HK:=O K0;have hmk:=z5I C' (by omega);have hmx:prog.follows .mixedOrders=true:=(by kernel_rfl);clear hcel hD hup hps hc hr K0 KN hgc' hgc;go_enter func143,ntmps143;go_wp2_with fail
  refine (z6C ac ar cc cr t HDr.out _ HT.out.1 HT.out.2).mono ?_;rintro e w2 ⟨vg,rfl,hO2,hb2⟩;obtain ⟨ag,cg,rfl⟩:=z5L hO2;have hG2:=hO2.at (z73 HDr.out)
  have HW:Hid (Ws w z w2.heap.size ac ar cc cr t ag cg (w2.alloc (.cells #[int i64 (Z t).rows,int i64 (Z t).cols,.slice ag (Z t).cells.length cg] 38))) :=
   ⟨ze (zi HK.out hb2) _,⟨(HT.out.1.kept hb2).kept (ze bR _),(HT.out.2.kept hb2).kept (ze bR _)⟩,(bA (nL (by simp) hb2.size)).trans ((hb2.block w.heap.size (by simp)).trans HX.out),(hG2.base (by simp)).kept (ze bR _),zj _ _⟩
  have hz2:w.heap.size < w2.heap.size:=nL (by simp) hb2.size;clear hO2 hb2 hG2 HT HX HK;go_upto_region 2 with fail
  generalize hW3:w2.alloc (.cells #[int i64 (Z t).rows,int i64 (Z t).cols,.slice ag (Z t).cells.length cg] 38)=W3 at HW |-;have hz3:W3.heap.size=w2.heap.size+1:=(by rw [<-hW3];simp);clear hW3;obtain ⟨y0,y1,y2,y3⟩:=HW.out.at;rw [HGC.out] at y2;go_wp2_with fail
  clear hmk y0 y1 y2 y3;have S0:Hid (zq (W3.alloc (.cells (z1l C') 3)) (w2.heap.size+1) (w2.heap.size+2) (.slice (some ⟨w2.heap.size+1,0,none⟩) C' C') (z02 C')):=(by have h:=z4n W3 C' (by omega);rw [hz3] at h;exact h);go_loopw [7] (λs W=>∃ m:Nat,s=int i64 ((m:Int)+1)/\m<=4/\Hid (zq W (w2.heap.size+1) (w2.heap.size+2) (.slice (some ⟨w2.heap.size+1,0,none⟩) C' C') (z0T (λx=>nd (zR t x)) t.gap (Z t).cells (z02 C') m))/\Hid (Below W3.heap.size W3 W)/\W3.heap.size < W.heap.size) (λs _=>5 - (intOf s).toNat)
  case atStart=>exact ⟨0,rfl,by omega,S0,ze bR _,by simp⟩
  case round =>
   clear S0;obtain ⟨m,rfl,hm,HR,HB,hsz⟩:=hrel;by_cases hlt:m < 4
   case neg =>
    obtain rfl:m=4:=by omega
    have hK:=O (HW.out.1.trans (HB.out.mono (by omega)));have HF:=O (HR.out.base (B':=w.heap.size) (D':=wr.heap.size) (by omega) (by omega));go_wp2;go_ret;exact ⟨_,rfl,HF.out,hK.out⟩
   have HWr:=O (HW.out.kept HB.out);obtain ⟨y0,y1,y2,y3⟩:=HWr.out.at;rw [HGC.out] at y2;go_wp2_with fail
   clear y0 y1 y2 y3 HWr;have HUm:=O (HPs.out m (by omega) (by omega));rw [show decide ((m:Int)+1<=4)=true by simp;omega];go_loopw [22] (λs W=>∃ k:Nat,s=int i64 k/\k<=(Z t).cells.length/\Hid (zq W (w2.heap.size+1) (w2.heap.size+2) (.slice (some ⟨w2.heap.size+1,0,none⟩) C' C') (z1H (λx=>nd (zR t x)) t.gap ((m+1:Nat):Int) (Z t).cells (z0T (λx=>nd (zR t x)) t.gap (Z t).cells (z02 C') m) k))/\Hid (Below W3.heap.size W3 W)/\W3.heap.size < W.heap.size) (λs _=>(Z t).cells.length - (intOf s).toNat)
   case atStart=>exact ⟨0,rfl,nZ,HR,HB,hsz⟩
   case round =>
    clear HR HB hsz;obtain ⟨k,rfl,hk,HR,HB,hsz⟩:=hrel;by_cases hkl:k < (Z t).cells.length
    case neg =>
     obtain rfl:k=(Z t).cells.length:=by omega
     go_wp2;go_roundw
     case rel=>exact ⟨m+1,by go_num,by omega,HR,HB,hsz⟩
     case measure=>simp [intOf];omega
    have HWr:=O (HW.out.kept HB.out);obtain ⟨b,off,cap',e',hc1,hc2,hbl,hx,_⟩:=At.get HWr.out.2.2.2.1 hkl;simp only [Value.slice.injEq,true_and] at e';obtain ⟨rfl,rfl⟩:=e';unfold maxLen at hc2;have HCe:=O (HCel.out k hkl);obtain ⟨⟨rn,jn,cn,mn,e1,e2,e3,e4,h1,h2,h3,h4,h5⟩,hgp,hrs⟩:=HCel.out k hkl;have HSz:Hid ((zR t ((Z t).cells.getD k dG)).size<=maxLen):=z6M HCe.out HWr.out.2.1.2;have hub:=HUm.out k hk;have HNo:Hid ((mn:Int) ≠ ((m+1:Nat):Int)->z1H (λx=>nd (zR t x)) t.gap ((m+1:Nat):Int) (Z t).cells (z0T (λx=>nd (zR t x)) t.gap (Z t).cells (z02 C') m) (k+1)=z1H (λx=>nd (zR t x)) t.gap ((m+1:Nat):Int) (Z t).cells (z0T (λx=>nd (zR t x)) t.gap (Z t).cells (z02 C') m) k):=λh=>by rw [z1H,if_neg (by rw [e4];exact h)]
    have HYes:Hid ((mn:Int)=((m+1:Nat):Int)->z1H (λx=>nd (zR t x)) t.gap ((m+1:Nat):Int) (Z t).cells (z0T (λx=>nd (zR t x)) t.gap (Z t).cells (z02 C') m) (k+1)=z3a (z1H (λx=>nd (zR t x)) t.gap ((m+1:Nat):Int) (Z t).cells (z0T (λx=>nd (zR t x)) t.gap (Z t).cells (z02 C') m) k) cn mn t.gap (nd (zR t ((Z t).cells.getD k dG)))):=λh=>by rw [z1H,if_pos (by rw [e4];exact h),e3,e4,Int.toNat_natCast,Int.toNat_natCast]
    have hpl:=z4i (λx=>nd (zR t x)) t.gap ((m+1:Nat):Int) (Z t).cells (z0T (λx=>nd (zR t x)) t.gap (Z t).cells (z02 C') m) k;rw [z3v,show (z02 C').length=C' by simp [z02]] at hpl;generalize (Z t).cells.getD k dG=x at hx e1 e2 e3 e4 HYes hrs HCe HSz;generalize hL:z1H (λx=>nd (zR t x)) t.gap ((m+1:Nat):Int) (Z t).cells (z0T (λx=>nd (zR t x)) t.gap (Z t).cells (z02 C') m) k=L at HR HNo HYes hub hpl;clear hL;have HKT:=O (λ(W:World) (hR:z05 W z (.slice ar t.rows.length cr) t.rows)=>zag ac ar cc cr t x HCe.out W hR);simp only [e1,e2,e3,e4] at HKT;obtain ⟨x0,x1,x2,x3,x4⟩:=hx;rw [e1] at x0;rw [e2] at x4;rw [e3] at x1;rw [e4] at x3;by_cases hms:(mn:Int)=(m:Int)+1
    case neg =>
     have hmb:((mn:Int) == (m:Int)+1)=false:=(by simpa using hms);have HL:=O (HNo.out (by omega));clear HNo HYes e1 e2 e3 e4 hms;go_wp2;go_roundw
     case rel=>exact ⟨k+1,by go_num,by omega,by rw [HL.out];exact HR.out.kept (λj h0 _ _=>bA h0),ze HB.out _,by simp;omega⟩
     case measure=>simp [intOf];omega
    obtain rfl:mn=m+1:=by omega
    have HL:=O (HYes.out rfl);have hmb:((m:Int)+1 == (m:Int)+1)=true:=(by simp);have hcast:((m+1:Nat):Int)=(m:Int)+1:=(by omega);rw [hcast] at x3;simp only [hcast] at HKT;clear hcast;clear HNo HYes e1 e2 e3 e4 hms;go_upto_region 10 with fail
    have HW4:Hid (Ws w z w2.heap.size ac ar cc cr t (some ⟨b,off,none⟩) cg (wr.alloc (.cells #[int i64 (rn:Int),int i64 (cn:Int),int i64 x.rows,int i64 ((m:Int)+1),int i64 (jn:Int)] 51))):=HWr.out.kept (ze bR _);have HB4:=O (ze HB.out (.cells #[int i64 (rn:Int),int i64 (cn:Int),int i64 x.rows,int i64 ((m:Int)+1),int i64 (jn:Int)] 51));have HR4:=O (HR.out.kept (λj h0 _ _=>Below.heap_alloc wr (.cells #[int i64 (rn:Int),int i64 (cn:Int),int i64 x.rows,int i64 ((m:Int)+1),int i64 (jn:Int)] 51) j h0));have HX4:=O (zj wr (.cells #[int i64 (rn:Int),int i64 (cn:Int),int i64 x.rows,int i64 ((m:Int)+1),int i64 (jn:Int)] 51));have hsz4:W3.heap.size < (wr.alloc (.cells #[int i64 (rn:Int),int i64 (cn:Int),int i64 x.rows,int i64 ((m:Int)+1),int i64 (jn:Int)] 51)).heap.size:=(by simp;omega);generalize wr.alloc (.cells #[int i64 (rn:Int),int i64 (cn:Int),int i64 x.rows,int i64 ((m:Int)+1),int i64 (jn:Int)] 51)=W4 at HW4 HB4 HR4 HX4 hsz4 |-;generalize wr.heap.size=cb at HX4 |-;clear HWr HR HB hsz x0 x1 x2 x3 x4 hbl;have q1:W4.cell? ⟨cb,1,none⟩=some (int i64 (cn:Int)):=zf HX4.out;have hcb:cb < W4.heap.size:=(bL HX4.out);have htb:w.heap.size < W4.heap.size:=(bL HW4.out.2.2.1);obtain ⟨y0,y1,y2,y3⟩:=HW4.out.at;obtain ⟨t3,t4,t5,t6,t10,t11,t12,t13⟩:=zdZ h3 hC88;have hne:=z0H W4;have g0:=zm (a:=⟨cb,0,none⟩) hcb (zf (p:=0) HX4.out);have g1:=zm (a:=⟨cb,1,none⟩) hcb (zf (p:=1) HX4.out);have g2:=zm (a:=⟨cb,2,none⟩) hcb (zf (p:=2) HX4.out);have g3:=zm (a:=⟨cb,3,none⟩) hcb (zf (p:=3) HX4.out);have g4:=zm (a:=⟨cb,4,none⟩) hcb (zf (p:=4) HX4.out);have b0:=zm (a:=⟨w.heap.size,0,none⟩) htb (zf (p:=0) HW4.out.2.2.1);have b1:=zm (a:=⟨w.heap.size,1,none⟩) htb (zf (p:=1) HW4.out.2.2.1);have b2:=zm (a:=⟨w.heap.size,2,none⟩) htb (zf (p:=2) HW4.out.2.2.1);have b3:=zm (a:=⟨w.heap.size,3,none⟩) htb (zf (p:=3) HW4.out.2.2.1);have b4:=zm (a:=⟨w.heap.size,4,none⟩) htb (zf (p:=4) HW4.out.2.2.1);have KT:=O (λ(p:BW W4)=>z4z ((HKT.out p.u (HW4.out.kept p.h).2.1.2).mono (λ_ _ ⟨h1,_,h2⟩=>And.intro h1 h2)));have KND:=O (λ(p:BW W4)=>z4z (HN.out (zR t x) p.u HSz.out));have KW:=O (λW=>zhj (w2.heap.size+1) (w2.heap.size+2) (w2.heap.size+1) C' C' L (λi hi=>by have:=hub i hi;omega) cn (m+1) (by rw [hpl];exact h3) ⟨h4,h5⟩ t.gap (nd (zR t x)) hgp (hnd (zR t x)) W);clear y0 y1 y2 y3 q1;refine z1g 15 hmx (by rfl) (by rfl) (by kernel_rfl) (by kernel_rfl) ?_;simp only [List.take_succ_cons,List.take_zero];repeat (go_big_quiet_step (first | (go_at_call 102;refine KT.out _) | (go_at_call 144;refine KND.out _) | (go_at_call 157;refine KND.out _)))
    refine wpQuiet_nil ?_;intro W5 hw';obtain ⟨⟨Wx,hW5⟩,hw''⟩:=hw';subst hw'';have HB5:=O (HB4.out.trans (hW5.mono (Nat.le_of_lt hsz4)));have HR5:=O (HR4.out.kept (λj h0 _ _=>hW5.block j h0));have hsz5:W3.heap.size < W5.heap.size:=nL hsz4 hW5.size;clear g0 g1 g2 g3 g4 b0 b1 b2 b3 b4 KT KND HKT HW4 HB4 HR4 HX4 hsz4 hW5 hne;rw [if_pos (by rfl)];go_simp;go_wp2_with (go_at_call 156;refine (KW.out W5 HR5.out (by omega)).mono ?_;rintro e w7 ⟨rfl,hr7,hk7⟩;have HR7:=O hr7;have HB7:=O (HB5.out.trans (hk7.below (Nat.le_of_lt hsz5) (by omega)));have hsz7:W3.heap.size < w7.heap.size:=nL hsz5 hk7.size;clear hr7 hk7)
    go_roundw
    case rel=>exact ⟨k+1,by go_num,by omega,by rw [HL.out];exact HR7.out,HB7,hsz7⟩
    case measure=>simp [intOf];omega
theorem zkn (s:ByteArray) (W:World) (h:s.size<=maxLen):Calls prog 144 #[.string s] W λe w'=>e=.returned (int i64 ((z0E (zZ s):Nat):Int))/\Below W.heap.size W w':=zdb s h W
theorem z8z (ac ar:Option Addr) (cc cr:Nat) (t:T) (hD:z0g t) (w:World) {z:Nat} (hc:z09 w z (.slice ac t.cols.length cc) t.cols) (hr:z05 w z (.slice ar t.rows.length cr) t.rows) :
  Calls prog 122 #[.agg #[.slice ac t.cols.length cc,int i64 t.head,int i64 t.foot,.slice ar t.rows.length cr,int i64 t.gap]] w λe w'=>∃ v,e=.returned v/\zq w' w.heap.size w'.heap.size v (zB t)/\Below w.heap.size w w':=by
 obtain ⟨_,C,hgc,hC,_⟩:=z35 hD;have HCN:=O (z4k hgc);have HL:Hid (z1F t.cols (z22 t (z3i t)) C=zB t):=(by rw [Hid,zB,HCN.out]);have hNL:z0T (λx=>((z0E (zZ (zR t x)):Nat):Int)) t.gap (Z t).cells (z02 C) 4=z22 t (z3i t):=(by unfold z22;rw [HCN.out];rfl);have hlen:=z2K t (z3i t);rw [HCN.out] at hlen;have HUp:=O (z5v hD (λx=>(z8q t x).2));have HSd:=O (λk (hk:k < C)=>z9s (t:=t) (k:=k) (by rw [HCN.out];exact hk));have hmx:prog.follows .mixedOrders=true:=(by kernel_rfl);have HK0:=O (ze (Below.refl w.heap.size w) (.cells #[.slice ac t.cols.length cc,int i64 t.head,int i64 t.foot,.slice ar t.rows.length cr,int i64 t.gap] 26));have HX:=O (zj w (.cells #[.slice ac t.cols.length cc,int i64 t.head,int i64 t.foot,.slice ar t.rows.length cr,int i64 t.gap] 26));have HT:=O (And.intro (hc.kept HK0.out) (hr.kept HK0.out));have hs1:(w.alloc (.cells #[.slice ac t.cols.length cc,int i64 t.head,int i64 t.foot,.slice ar t.rows.length cr,int i64 t.gap] 26)).heap.size=w.heap.size+1:=(by simp);have KE:=O (λW h1 h2=>z7c _ (.inl rfl) (λs=>((z0E (zZ s):Nat):Int)) (λs=>by have:=z58 (zZ s);omega) zkn ac ar cc cr t hD W (z:=z) h1 h2 C hgc);rw [hNL] at KE;generalize z22 t (z3i t)=L at KE HL hlen HUp;clear hNL hc hr hD hgc;go_enter func122,ntmps122;go_upto_region 1 with fail
 generalize w.alloc (.cells #[.slice ac t.cols.length cc,int i64 t.head,int i64 t.foot,.slice ar t.rows.length cr,int i64 t.gap] 26)=W1 at HK0 HX HT hs1 |-;have b0:W1.cell? ⟨w.heap.size,0,none⟩=some (.slice ac t.cols.length cc):=zf HX.out;have b1:W1.cell? ⟨w.heap.size,1,none⟩=some (int i64 t.head):=zf HX.out;have b2:W1.cell? ⟨w.heap.size,2,none⟩=some (int i64 t.foot):=zf HX.out;have b3:W1.cell? ⟨w.heap.size,3,none⟩=some (.slice ar t.rows.length cr):=zf HX.out;have b4:W1.cell? ⟨w.heap.size,4,none⟩=some (int i64 t.gap):=zf HX.out;go_wp2_with fail
 refine (KE.out _ HT.out.1 HT.out.2).mono ?_;rintro e w2 ⟨v2,rfl,hR2,hb2⟩;obtain ⟨a2,c2,rfl⟩:=hR2.form;rw [hlen] at hR2 |-;have HR2:=O hR2;have HB2:=O hb2;have hz2:w.heap.size+1<=w2.heap.size:=(by have:=hb2.size;omega);clear hR2 hb2 b0 b1 b2 b3 b4 KE;go_wp2_with fail
 go_loopw [10] (λs W=>∃ k:Nat,s=int i64 k/\k<=C/\Hid (zq W W1.heap.size w2.heap.size (.slice a2 C c2) (z1F t.cols L k))/\Hid (Below W1.heap.size W1 W)/\w2.heap.size<=W.heap.size) (λs _=>C - (intOf s).toNat)
 case atStart=>exact ⟨0,rfl,nZ,HR2,HB2,lR⟩
 case round =>
  clear HR2 HB2;obtain ⟨k,rfl,hk,HR,HB,hsz⟩:=hrel;by_cases hlt:k < C
  case neg =>
   obtain rfl:k=C:=by omega
   have HF:=O (HR.out.base (B':=w.heap.size) (D':=wr.heap.size) (by omega) hsz);have HK:=O (HK0.out.trans (HB.out.mono (by omega)));go_wp2;go_ret;exact ⟨_,rfl,by rw [<-HL.out];exact HF.out,HK.out⟩
  have X0:=(HB.out.block w.heap.size (by omega)).trans HX.out;have b0:wr.cell? ⟨w.heap.size,0,none⟩=some (.slice ac t.cols.length cc):=zf X0;have hwz:w.heap.size < wr.heap.size:=(by omega);have KS:=O (zak _ t.cols (k:Int) wr (HT.out.1.kept HB.out));obtain ⟨g,cap',e',hBg,hgD,hgw,hc1,hc2,hx,hf⟩:=HR.out.get (i:=k) (by rw [z1u];omega);rw [z1u,hlen] at e' hc1;simp only [Value.slice.injEq,true_and] at e';obtain ⟨rfl,rfl⟩:=e';unfold maxLen at hc2;have hxb:=HUp.out k (by omega);rw [z2J t.cols L k lR] at hx;have hsd:=HSd.out k hlt;have HYes:Hid ((sd t.cols k).1=1->z1F t.cols L (k+1)=(z1F t.cols L k).set k (max (L.getD k 0) (sd t.cols k).2)):=λh=>by rw [z1F,if_pos h,z2J t.cols L k lR]
  have HNo:Hid ((sd t.cols k).1 ≠ 1->z1F t.cols L (k+1)=z1F t.cols L k):=λh=>by rw [z1F,if_neg h]
  generalize sd t.cols k=p at KS hsd HYes HNo;clear X0;by_cases hp:p.1=1
  case neg =>
   have hpb:(p.1 == 1)=false:=(by simpa using hp);have HF:=O (HNo.out hp);clear HNo HYes hsd hp;go_wp2_with fail
   refine KS.out.mono ?_;rintro e w3 ⟨rfl,hb3⟩;have HK3:=O hb3;clear hb3;go_wp2;go_roundw
   case rel=>exact ⟨k+1,by go_num,by omega,by rw [HF.out];exact HR.out.kept (λj h0 _ _=>(bA (nL h0 HK3.out.size)).trans (HK3.out.block j h0)),ze (HB.out.trans (HK3.out.mono HB.out.size)) _,by have:=HK3.out.size;simp;omega⟩
   case measure=>simp [intOf];omega
  have HF:=O (HYes.out hp);have hq:=hsd hp;clear HNo HYes hsd;obtain ⟨p1,p2⟩:=p;obtain rfl:p1=1:=hp;have hq:0<=p2/\p2<=60:=hq;dsimp only at KS HF;go_wp2_with fail
  refine KS.out.mono ?_;rintro e w3 ⟨rfl,hb3⟩;have HX3:=O (zj w3 (.cells #[int i64 1,int i64 p2] 105));have HB3:=O (ze (HB.out.trans (hb3.mono HB.out.size)) (.cells #[int i64 1,int i64 p2] 105));have HR3:=O (HR.out.kept (λj h0 _ _=>(Below.heap_alloc w3 (.cells #[int i64 1,int i64 p2] 105) j (nL h0 hb3.size)).trans (hb3.block j h0)));have hsz3:w2.heap.size<=(w3.alloc (.cells #[int i64 1,int i64 p2] 105)).heap.size:=(by have:=hb3.size;simp;omega);clear hb3 HR HB hx hf b0;go_upto_region 7 with fail
  generalize w3.alloc (.cells #[int i64 1,int i64 p2] 105)=W3 at HX3 HB3 HR3 hsz3 |-;generalize w3.heap.size=cb at HX3 |-;obtain ⟨g3,cap3,e3,hBg3,hgD3,hgw3,hc13,hc23,hx3,hf3⟩:=HR3.out.get (i:=k) (by rw [z1u];omega);rw [z1u,hlen] at e3;simp only [Value.slice.injEq,Option.some.injEq,Addr.mk.injEq,and_true] at e3;obtain ⟨rfl,_,rfl⟩:=e3;rw [z2J t.cols L k lR] at hx3;have hcb:cb < W3.heap.size:=(bL HX3.out);have hne:=z0H W3;have q1:=zm (a:=⟨cb,1,none⟩) hcb (zf (p:=1) HX3.out);have q2:=zm (a:=⟨g,k,none⟩) hgw3 hx3;have HN:=O (λW (h:Below W3.heap.size W3 W)=>(HR3.out.kept (λj h0 _ _=>h.block j h0)).set (i:=k) (by rw [z1u];omega) (max (L.getD k 0) p2));rw [<-HF.out] at HN;generalize L.getD k 0=y at hxb hx3 q2 HN;clear hx3 hf3 hc13 hc23 HF;refine z1g 10 hmx (by rfl) (by rfl) (by kernel_rfl) (by kernel_rfl) ?_;simp only [List.take_succ_cons,List.take_zero];repeat (go_big_quiet_step (fail))
  refine wpQuiet_nil ?_;intro W5 hw';obtain ⟨⟨Wx,hW5⟩,hw''⟩:=hw';subst hw'';have HN5:=O (HN.out _ hW5);have HB5:=O (z2s (HB3.out.trans (hW5.mono HB3.out.size)) (p:=⟨g,k,none⟩) hBg (int i64 (max y p2)));have hf5:=(HR3.out.kept (λj h0 _ _=>hW5.block j h0)).get (i:=k) (by rw [z1u];omega);obtain ⟨g5,cap5,e5,_,_,hgw5,_,_,hx5,hf5⟩:=hf5;simp only [Value.slice.injEq,Option.some.injEq,Addr.mk.injEq,and_true] at e5;have eg:=e5.1;clear e5;subst eg;have hsz5:w2.heap.size<=(W5.setCell ⟨g,k,none⟩ (int i64 (max y p2))).heap.size:=(by rw [z31];have:=hW5.size;omega);clear q1 q2 HN HB3 HR3 hW5 hne;rw [if_pos (by rfl)];go_simp;go_wp2;go_roundw
  case rel=>exact ⟨k+1,by go_num,by omega,HN5,HB5,hsz5⟩
  case measure=>simp [intOf];omega
theorem zkR (s:ByteArray) (W:World) (h:s.size<=maxLen):Calls prog 157 #[.string s] W λe w'=>e=.returned (int i64 ((z2A s:Nat):Int))/\Below W.heap.size W w':=(ze7 s h W).mono (λ_ _ ⟨h1,h2⟩=>⟨h1,h2 ▸ bR⟩)
theorem ze8 (ac ar:Option Addr) (cc cr:Nat) (t:T) (hD:z0g t) (w:World) {z:Nat} (hc:z09 w z (.slice ac t.cols.length cc) t.cols) (hr:z05 w z (.slice ar t.rows.length cr) t.rows) :
  Calls prog 150 #[.agg #[.slice ac t.cols.length cc,int i64 t.head,int i64 t.foot,.slice ar t.rows.length cr,int i64 t.gap]] w λe w'=>∃ v,e=.returned v/\zq w' w.heap.size w'.heap.size v (z24 t)/\Below w.heap.size w w':=by
 obtain ⟨_,C,hgc,hC,_⟩:=z35 hD;have HCN:=O (z4k hgc);have HL:Hid (z2Y (z22 t (z4l t)) (zB t) C=z24 t):=(by rw [Hid,z24,HCN.out]);have hNL:z0T (λx=>((z2A (zR t x):Nat):Int)) t.gap (Z t).cells (z02 C) 4=z22 t (z4l t):=(by unfold z22;rw [HCN.out];rfl);have hlen:=z2K t (z4l t);have hlen2:=z1m t;rw [HCN.out] at hlen hlen2;have HUp:=O (z5v hD (λx=>(z9t t x).2));have HUp2:=O (z44 hD);have HK0:=O (ze (Below.refl w.heap.size w) (.cells #[.slice ac t.cols.length cc,int i64 t.head,int i64 t.foot,.slice ar t.rows.length cr,int i64 t.gap] 26));have HX:=O (zj w (.cells #[.slice ac t.cols.length cc,int i64 t.head,int i64 t.foot,.slice ar t.rows.length cr,int i64 t.gap] 26));have HT:=O (And.intro (hc.kept HK0.out) (hr.kept HK0.out));have hs1:(w.alloc (.cells #[.slice ac t.cols.length cc,int i64 t.head,int i64 t.foot,.slice ar t.rows.length cr,int i64 t.gap] 26)).heap.size=w.heap.size+1:=(by simp);have KE:=O (λW h1 h2=>z7c _ (.inr rfl) (λs=>((z2A s:Nat):Int)) (λs=>by have:=z8r s;omega) zkR ac ar cc cr t hD W (z:=z) h1 h2 C hgc);have KL:=O (λW h1 h2=>z8z ac ar cc cr t hD W (z:=z) h1 h2);rw [hNL] at KE;generalize z22 t (z4l t)=L at KE HL hlen HUp;generalize zB t=M at KL HL hlen2 HUp2;clear hNL hc hr hD hgc;go_enter func150,ntmps150;go_upto_region 1 with fail
 generalize w.alloc (.cells #[.slice ac t.cols.length cc,int i64 t.head,int i64 t.foot,.slice ar t.rows.length cr,int i64 t.gap] 26)=W1 at HK0 HX HT hs1 |-;obtain ⟨b0,b1,b2,b3,b4⟩:=zL HX.out;go_wp2_with fail
 refine (KE.out _ HT.out.1 HT.out.2).mono ?_;rintro e w2 ⟨v2,rfl,hR2,hb2⟩;obtain ⟨a2,c2,rfl⟩:=hR2.form;rw [hlen] at hR2 |-;have HR2:=O hR2;have HB2:=O hb2;have HX2:=O ((hb2.block w.heap.size (by omega)).trans HX.out);have hz2:w.heap.size+1<=w2.heap.size:=(by have:=hb2.size;omega);clear hR2 hb2 b0 b1 b2 b3 b4 KE;obtain ⟨b0,b1,b2,b3,b4⟩:=zL HX2.out;have ht2:w.heap.size < w2.heap.size:=(by omega);go_wp2_with fail
 refine (KL.out _ (HT.out.1.kept HB2.out) (HT.out.2.kept HB2.out)).mono ?_;rintro e w3 ⟨v3,rfl,hR3,hb3⟩;obtain ⟨a3,c3,rfl⟩:=hR3.form;rw [hlen2] at hR3 |-;have HR3:=O (HR2.out.kept (λj h0 _ _=>hb3.block j h0));have HM3:=O hR3;have HB3:=O (zi HB2.out hb3);have hz3:w2.heap.size<=w3.heap.size:=hb3.size;clear hR3 hb3 HR2 HB2 HX2 b0 b1 b2 b3 b4 ht2 KL;go_wp2_with fail
 go_loopw [11] (λs W=>∃ k:Nat,s=int i64 k/\k<=C/\Hid (zq W W1.heap.size w2.heap.size (.slice a2 C c2) (z2Y L M k))/\Hid (zq W w2.heap.size w3.heap.size (.slice a3 C c3) M)/\Hid (Below W1.heap.size W1 W)/\w3.heap.size<=W.heap.size) (λs _=>C - (intOf s).toNat)
 case atStart=>exact ⟨0,rfl,nZ,HR3,HM3,HB3,lR⟩
 case round =>
  clear HR3 HM3 HB3;obtain ⟨k,rfl,hk,HR,HM,HB,hsz⟩:=hrel;by_cases hlt:k < C
  case neg =>
   obtain rfl:k=C:=by omega
   have HF:=O (HR.out.base (B':=w.heap.size) (D':=wr.heap.size) (by omega) (by omega));have HK:=O (HK0.out.trans (HB.out.mono (by omega)));go_wp2;go_ret;exact ⟨_,rfl,by rw [<-HL.out];exact HF.out,HK.out⟩
  obtain ⟨g,cap',e',hBg,hgD,hgw,hc1,hc2,hx,hf⟩:=HR.out.get (i:=k) (by rw [z36];omega);rw [z36,hlen] at e' hc1;simp only [Value.slice.injEq,true_and] at e';obtain ⟨rfl,rfl⟩:=e';obtain ⟨g3,cap3,e3,hBg3,hgD3,hgw3,hc13,hc23,hy,_⟩:=HM.out.get (i:=k) (by omega);rw [hlen2] at e3 hc13;simp only [Value.slice.injEq,true_and] at e3;obtain ⟨rfl,rfl⟩:=e3;unfold maxLen at hc2 hc23;rw [z8s L M k lR] at hx;have hxb:=HUp.out k (by omega);have hyb:=HUp2.out k (by omega);have HN:=O (HR.out.set (i:=k) (by rw [z36];omega) (max (L.getD k 0) (M.getD k 0)));have HE:Hid (z2Y L M (k+1)=(z2Y L M k).set k (max (L.getD k 0) (M.getD k 0))):=rfl;rw [<-HE.out] at HN;have HM2:=O (HM.out.kept (w':=wr.setCell ⟨g,k,none⟩ (int i64 (max (L.getD k 0) (M.getD k 0)))) (λi _ h1 _=>bS (λe=>by have e':i=g:=e;omega)));have HB2:=O (z2s HB.out (p:=⟨g,k,none⟩) hBg (int i64 (max (L.getD k 0) (M.getD k 0))));have hsz2:w3.heap.size<=(wr.setCell ⟨g,k,none⟩ (int i64 (max (L.getD k 0) (M.getD k 0)))).heap.size:=(by rw [z31];exact hsz);generalize L.getD k 0=x at hx hxb HN HM2 HB2 hsz2;generalize M.getD k 0=y at hy hyb HN HM2 HB2 hsz2;clear HE;go_wp2;go_roundw
  case rel=>exact ⟨k+1,by go_num,by omega,HN,HM2,HB2,hsz2⟩
  case measure=>simp [intOf];omega
end
end Go.Proofs.YtggmjiddadjilahGreat
