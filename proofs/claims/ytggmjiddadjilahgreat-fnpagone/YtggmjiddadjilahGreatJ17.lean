/-
  PROVED HERE: what the model's l3Of answers at a drawn table that is ok: its cells at their places; nothing that was in memory is turned. Also: 8 more texts of the same proof.
-/
import Derived.Test.YtggmjiddadjilahGreatJ16
set_option maxRecDepth 1000000
set_option maxHeartbeats 40000000
open Go.Proofs.Tryz
namespace Go.Proofs.YtggmjiddadjilahGreat
open Value (int)
open IntKind (i64)
section
open Go.RowKit Go.BigFrame
theorem zic (ac ar:Option Addr) (cc cr:Nat) (t:T) (hl:Low t) (w:World) {z:Nat} (hr:z05 w z (.slice ar t.rows.length cr) t.rows) :
  Calls prog 48 #[.agg #[.slice ac t.cols.length cc,int i64 t.head,int i64 t.foot,.slice ar t.rows.length cr,int i64 t.gap]] w λe w'=>∃ vg,e=.returned (.agg #[int i64 (t.rows.length:Int),int i64 (z0x (max 1 (t.cols.length:Int)) (zU t)),vg])/\z9l w' w.heap.size vg (zU t)/\Below w.heap.size w w':=by
 have hmx:prog.follows .mixedOrders=true:=(by kernel_rfl);have hn8:=hl.rows;have HL:=O hl;have HR:=O hr;clear hl hr;go_enter func48,ntmps48;go_wp2_with fail
 obtain ⟨W0,hW0⟩:∃ W0,(w.alloc (.cells #[.slice ac t.cols.length cc,int i64 t.head,int i64 t.foot,.slice ar t.rows.length cr,int i64 t.gap] 26)).alloc (.cells #[int i64 0,int i64 0,.slice none 0 0] 38)=W0:=⟨_,rfl⟩;have K0:Below w.heap.size w W0:=(by rw [<-hW0];exact ze (ze bR _) _);have hz0:W0.heap.size=w.heap.size+2:=(by rw [<-hW0];simp);have T0:W0.heap[w.heap.size]?=some (.cells #[.slice ac t.cols.length cc,int i64 t.head,int i64 t.foot,.slice ar t.rows.length cr,int i64 t.gap] 26):=(by rw [<-hW0];exact (bA (by simp)).trans (zj _ _))
 have X0:W0.heap[w.heap.size+1]?=some (.cells #[int i64 0,int i64 0,.slice none 0 0] 38):=by
  have:=zj (w.alloc (.cells #[.slice ac t.cols.length cc,int i64 t.head,int i64 t.foot,.slice ar t.rows.length cr,int i64 t.gap] 26)) (.cells #[int i64 0,int i64 0,.slice none 0 0] 38);rw [hW0] at this
  simpa using this
 rw [hW0];clear hW0;refine z0n (ofJ w.heap.size W0 ac ar cc cr t (λv3 v8 v9 v10 v11 v12 v13 v14 v15=>⟨#[.agg #[.slice ac t.cols.length cc,int i64 t.head,int i64 t.foot,.slice ar t.rows.length cr,int i64 t.gap],.pointer (some ⟨w.heap.size,0,none⟩),.pointer (some ⟨w.heap.size+1,0,none⟩),v3,undef,undef,undef,undef,v8,v9,v10,v11,v12,v13,v14,v15,undef,undef,undef,undef,undef,undef,undef,undef,undef,undef,undef,undef,undef,undef,undef,undef,undef,undef,undef,undef,undef,undef,undef,undef,undef,undef,undef,undef,undef,undef,undef,undef,undef,undef,undef,undef,undef,undef,undef,undef,undef,undef,undef,undef,undef,undef,undef,undef,undef,undef,undef,undef,undef,undef,undef,undef,undef,undef,undef,undef,undef,undef,undef,undef,undef,undef,undef,undef,undef,undef,undef,undef,undef,undef,undef,undef,undef,undef],[]⟩)) (by kernel_rfl) (by kernel_rfl) ?hs ?hd ?h0
 case h0=>exact e9 ⟨rfl,⟨n0,n0,n0,n0,n0,n0,n0,n0,n0,n0,n0,z0X bR⟩⟩
 case hs =>
  rename_i K1 hK1
  clear hK1;intro L a W i o hJ _ ho hLi haft K hK;obtain ⟨v3,v8,v9,v10,v11,v12,v13,v14,v15,ha,J⟩:=hJ;dsimp only at ha;subst ha
  have hi:i < 10:=by
   have:=(bL ho)
   simpa using this
  rcases (by omega:i=0\/i=1\/i=2\/i=3\/i=4\/i=5\/i=6\/i=7\/i=8\/i=9) with rfl | rfl | rfl | rfl | rfl | rfl | rfl | rfl | rfl | rfl
  all_goals
   simp only [List.getElem?_toArray,List.getElem?_cons_zero,List.getElem?_cons_succ,Option.some.injEq] at ho;subst ho;clear hi
  ·go_simp;exact hK _ _ (e9 ⟨rfl,⟨λ_=>rfl,V J.f1,V J.f2,V J.f3,V J.f4,V J.f5,V J.f6,V J.f7,λh=>by obtain ⟨g,e,h1,h2⟩:=J.f8 (un h);exact ⟨g,e,h1,λh3=>h2 (by rwa [zc rfl] at h3)⟩,V J.f9,λh=>by rw [zc rfl] at h |-;exact J.o9 h,J.bk⟩⟩)
  ·obtain rfl:=J.f0 (Fa haft 0);have hc:=z0W T0 J.bk;obtain ⟨⟨_,_,_,c3,_⟩,_⟩:=z2C hc;go_simp;exact hK _ _ (e9 ⟨rfl,⟨V J.f0,λ_=>rfl,V J.f2,V J.f3,V J.f4,V J.f5,V J.f6,V J.f7,λh=>by obtain ⟨g,e,h1,h2⟩:=J.f8 (un h);exact ⟨g,e,h1,λh3=>h2 (by rwa [zc rfl] at h3)⟩,V J.f9,λh=>by rw [zc rfl] at h |-;exact J.o9 h,J.bk⟩⟩)
  ·obtain rfl:=J.f1 (Fa haft 1);go_simp;exact hK _ _ (e9 ⟨rfl,⟨V J.f0,V J.f1,λ_=>rfl,V J.f3,V J.f4,V J.f5,V J.f6,V J.f7,λh=>by obtain ⟨g,e,h1,h2⟩:=J.f8 (un h);exact ⟨g,e,h1,λh3=>h2 (by rwa [zc rfl] at h3)⟩,V J.f9,λh=>by rw [zc rfl] at h |-;exact J.o9 h,J.bk⟩⟩)
  ·go_simp;exact hK _ _ (e9 ⟨rfl,⟨V J.f0,V J.f1,V J.f2,λ_=>rfl,V J.f4,V J.f5,V J.f6,V J.f7,λh=>by obtain ⟨g,e,h1,h2⟩:=J.f8 (un h);exact ⟨g,e,h1,λh3=>h2 (by rwa [zc rfl] at h3)⟩,V J.f9,λh=>by rw [zc rfl] at h |-;exact J.o9 h,J.bk⟩⟩)
  ·obtain rfl:=J.f3 (Fa haft 3);have hc:=z0W T0 J.bk;obtain ⟨⟨c0,_⟩,_⟩:=z2C hc;go_simp;exact hK _ _ (e9 ⟨rfl,⟨V J.f0,V J.f1,V J.f2,V J.f3,λ_=>rfl,V J.f5,V J.f6,V J.f7,λh=>by obtain ⟨g,e,h1,h2⟩:=J.f8 (un h);exact ⟨g,e,h1,λh3=>h2 (by rwa [zc rfl] at h3)⟩,V J.f9,λh=>by rw [zc rfl] at h |-;exact J.o9 h,J.bk⟩⟩)
  ·obtain rfl:=J.f4 (Fa haft 4);go_simp;exact hK _ _ (e9 ⟨rfl,⟨V J.f0,V J.f1,V J.f2,V J.f3,V J.f4,λ_=>rfl,V J.f6,V J.f7,λh=>by obtain ⟨g,e,h1,h2⟩:=J.f8 (un h);exact ⟨g,e,h1,λh3=>h2 (by rwa [zc rfl] at h3)⟩,V J.f9,λh=>by rw [zc rfl] at h |-;exact J.o9 h,J.bk⟩⟩)
  ·obtain rfl:=J.f5 (Fa haft 5);go_simp;go_wp2_with (go_at_call 82;refine (z34 _ _ _).mono ?_;rintro e W2 ⟨rfl,rfl⟩)
   exact e9 ⟨rfl,⟨V J.f0,V J.f1,V J.f2,V J.f3,V J.f4,V J.f5,λ_=>rfl,V J.f7,λh=>by obtain ⟨g,e,h1,h2⟩:=J.f8 (un h);exact ⟨g,e,h1,λh3=>h2 (by rwa [zc rfl] at h3)⟩,V J.f9,λh=>by rw [zc rfl] at h |-;exact J.o9 h,J.bk⟩⟩
  ·obtain rfl:=J.f2 (Fa haft 2);obtain rfl:=J.f6 (Fa haft 6);go_simp;exact hK _ _ (e9 ⟨rfl,⟨V J.f0,V J.f1,V J.f2,V J.f3,V J.f4,V J.f5,V J.f6,λ_=>rfl,λh=>by obtain ⟨g,e,h1,h2⟩:=J.f8 (un h);exact ⟨g,e,h1,λh3=>h2 (by rwa [zc rfl] at h3)⟩,V J.f9,λh=>by rw [zc rfl] at h |-;exact J.o9 h,J.bk⟩⟩)
  ·have hsz:=J.bk.size;go_simp;exact hK _ _ (e9 ⟨rfl,⟨V J.f0,V J.f1,V J.f2,V J.f3,V J.f4,V J.f5,V J.f6,V J.f7,λ_=>⟨W.heap.size,rfl,hsz,λ_=>zj _ _⟩,(λh=>by have:=J.o9 (un h);rw [hLi] at this;cases this),λ_=>zJ,ze J.bk _⟩⟩)
  ·obtain ⟨g,rfl,hgn,hg⟩:=J.f8 (Fa haft 8);obtain rfl:=J.f7 (Fa haft 7);have hg2:=hg hLi;obtain ⟨⟨c0,c1,c2⟩,e0,e1,e2⟩:=z3U hg2;go_simp;have h3:(((W.setCell ⟨g,0,none⟩ (int i64 (t.rows.length:Int))).setCell ⟨g,1,none⟩ (int i64 (max 1 (t.cols.length:Int)))).setCell ⟨g,2,none⟩ (.slice none 0 0)).heap[g]?=some (.cells #[int i64 (t.rows.length:Int),int i64 (max 1 (t.cols.length:Int)),.slice none 0 0] 38):=(z0s (z0s (z0s hg2 (p:=0) _) (p:=1) _) (p:=2) _).trans (by simp);exact hK _ _ (e9 ⟨rfl,⟨V J.f0,V J.f1,V J.f2,V J.f3,V J.f4,V J.f5,V J.f6,V J.f7,(λh=>⟨g,rfl,hgn,λh3=>by rw [zJ] at h3;cases h3⟩),λ_=>⟨g,rfl,hgn,h3⟩,λ_=>by rw [zc rfl];exact (Fa haft 8),z2s (z2s (z2s J.bk (p:=⟨g,0,none⟩) hgn _) (p:=⟨g,1,none⟩) hgn _) (p:=⟨g,2,none⟩) hgn _⟩⟩)
 case hd =>
  rename_i K1 hK1
  intro L a W hJ hall;obtain ⟨v3,v8,v9,v10,v11,v12,v13,v14,v15,ha,J⟩:=hJ;dsimp only at ha;subst ha;obtain ⟨gb,rfl,hgb,hG⟩:=J.f9 (hall 9 (by simp));have hbk:=J.bk;clear J hall;have HS:Hid (SG w gb ac ar cc cr t (max 1 (t.cols.length:Int)) (.slice none 0 0) [] W):=⟨K0.trans (hbk.mono (by omega)),z0W T0 hbk,z0W X0 hbk,hG,⟨rfl,.inl ⟨rfl,rfl⟩⟩⟩;have hgz:w.heap.size+2<=gb:=(by omega);clear hbk hG T0 X0 K0;refine hK1 _ _ ?_;clear hK1;obtain ⟨⟨t0,t1,t2,t3,t4⟩,_⟩:=z2C HS.out.tbl;go_wp2_with fail
  clear t0 t1 t2 t3 t4;go_loopg [4,5,6,7] t.rows.length (λkx s4 _ _ _ W=>∃ (r:Nat) (C:Int) (vg:Value),s4=int i64 r/\r<=t.rows.length/\t.rows.length - r<=kx/\Hid (C=z0x (max 1 (t.cols.length:Int)) (z0a t r))/\Hid (SG w gb ac ar cc cr t C vg (z0a t r) W))
  case atStart=>exact ⟨0,_,_,rfl,by omega,by omega,rfl,HS⟩
  case round =>
   obtain ⟨r,C,vg,rfl,hr,hkx,HCC,HS1⟩:=hrel;obtain ⟨⟨t0,t1,t2,t3,t4⟩,_⟩:=z2C HS1.out.tbl;clear HS;by_cases hrl:r < t.rows.length
   ·have hrl':(r:Int) < (t.rows.length:Int):=(by omega);obtain ⟨cs,ecs⟩:∃ cs,(t.rows.getD r dR).cells=cs:=⟨_,rfl⟩;have HE:=O ecs;have HP0:=O (z6B HL.out r hr);clear ecs;go_wp2_with fail
    clear t0 t1 t2 t3 t4;go_loopg [5,6,7] cs.length (λkx s5 _ _ W=>∃ (i:Nat) (C:Int) (vg:Value),s5=int i64 i/\i<=cs.length/\cs.length - i<=kx/\Hid (C=z0x (max 1 (t.cols.length:Int)) (z1X (z03 t r) r cs (z0a t r) i))/\Hid (SG w gb ac ar cc cr t C vg (z1X (z03 t r) r cs (z0a t r) i) W))
    case atStart=>exact ⟨0,C,vg,rfl,by omega,by omega,HCC,HS1⟩
    case round =>
     obtain ⟨i,C2,vg2,rfl,hi,hkx2,HC2,HS2⟩:=hrel;obtain ⟨wp,hwp⟩:∃ wp,wp=wr:=⟨_,rfl⟩;subst hwp;obtain ⟨⟨t0,t1,t2,t3,t4⟩,_⟩:=z2C HS2.out.tbl;clear HS1 HCC;obtain ⟨g,off,cap',e',hc1,hc2,hbl,u,hu,hwh,hcs⟩:=At.get (HR.out.kept HS2.out.bel) hrl;simp only [Value.slice.injEq,true_and] at e';obtain ⟨rfl,rfl⟩:=e';unfold maxLen at hc2;rw [HE.out] at hcs;obtain ⟨ca,ccp,rfl,hcm⟩:=At.form hcs;unfold maxLen at hcm;by_cases hil:i < cs.length
     ·have hil':(i:Int) < (cs.length:Int):=(by omega);obtain ⟨g2,z4H,cap2,e2,hd1,hd2,hbl2,hx,hxs⟩:=At.get hcs hil;simp only [Value.slice.injEq,true_and] at e2;obtain ⟨rfl,rfl⟩:=e2;unfold maxLen at hd2;have hP:=z7p HL.out hrl HP0.out i (by rw [HE.out];exact hi);rw [HE.out] at hP;have hN:=hP.next HL.out hrl (by rw [HE.out];exact hil);rw [HE.out] at hN;have hxb:=HL.out.span _ (z2q (d:=dR) hrl) (cs.getD i dC) (by rw [HE.out];exact z2q hil);have heb:=z6k HL.out hrl;obtain ⟨x,ex⟩:∃ x,cs.getD i dC=x:=⟨_,rfl⟩;rw [ex] at hx hxs hN hxb;obtain ⟨rr,err⟩:∃ rr,min x.r (z03 t r - r)=rr:=⟨_,rfl⟩;have hrr:1<=rr/\rr<=3:=(by omega);obtain ⟨gs,egs⟩:∃ gs,z1X (z03 t r) r cs (z0a t r) i=gs:=⟨_,rfl⟩;rw [egs] at hN hP HC2 HS2;obtain ⟨⟨hF1,hF2,hF3,hF4⟩,hPn⟩:=hN;obtain ⟨F,eF⟩:∃ F,z5E gs (z4r r i (z03 t r) x)=F:=⟨_,rfl⟩;rw [eF] at hF1 hF2 hF3
      have hcell:∀ k:Int,z1q (z4r r i (z03 t r) x) k=⟨r,k,rr,x.c,i⟩:=λk=>by
       simp only [z1q,z4r,err]
      have hpl:z1y gs r i (z03 t r) x=⟨r,F,rr,x.c,i⟩:=by
       unfold z1y;rw [eF,hcell]
      have hgsS:∀ a ∈ gs,z1z t.rows.length a:=λa ha=>(hP.stands a ha).1
      have hnext:z1X (z03 t r) r cs (z0a t r) (i+1)=gs ++ [⟨r,F,rr,x.c,i⟩]:=by
       show z1X (z03 t r) r cs (z0a t r) i ++ [z1y (z1X (z03 t r) r cs (z0a t r) i) r i (z03 t r) (cs.getD i dC)]=_;rw [egs,ex,hpl]
      simp only [hcell] at hF2 hF3 hF4;have HNX:=O hnext;have HF2:=O hF2;have HF3:=O hF3;have HF4:=O hF4;have HGS:=O hgsS
      have hgl:gs.length<=100:=by
       have h1:=z7q HL.out r;have h2:=z85 (z03 t r) r cs (z0a t r) i;rw [egs] at h2
       have h3:cs.length<=5:=by
        obtain ⟨k,hk⟩:=HL.out.few;have h4:=hk r;rw [HE.out] at h4
        split at h4 <;> omega
       omega
      obtain ⟨va,vcp,rfl,_⟩:=zP HS2.out.own;obtain ⟨v0,v1,v2,v3,v4,v5,v6,v7,v8',v9',v10'⟩:=hx;have HER:=O err;clear hcs hwh hP hPn ex hxs hF2 hF3 hF4 hcell hpl hnext egs eF err hgsS;have KE:=O (λW:World=>zgn ac (some ⟨g,off,none⟩) cc cr t ⟨hn8,HL.out.foot.1,by have:=HL.out.foot;have:=HL.out.head;omega⟩ r W);go_wp2_with fail
      obtain ⟨W1,hW1⟩:∃ W1,(wp.alloc (.cells #[.string x.s,int i64 x.c,int i64 x.r,int i64 x.a1,int i64 x.b1,int i64 x.a2,int i64 x.b2,int i64 x.a3,int i64 x.b3,int i64 x.a4,int i64 x.b4] 78)).alloc (.cells #[int i64 (r:Int),int i64 0,int i64 x.r,int i64 x.c,int i64 (i:Int)] 51)=W1:=⟨_,rfl⟩;rw [hW1];have KW:Below wp.heap.size wp W1:=(by rw [<-hW1];exact ze (ze bR _) _);have hzW:W1.heap.size=wp.heap.size+2:=(by rw [<-hW1];simp)
      have HCB:Hid (W1.heap[wp.heap.size+1]?=some (.cells #[int i64 (r:Int),int i64 0,int i64 x.r,int i64 x.c,int i64 (i:Int)] 51)):=O (by
       have:=zj (wp.alloc (.cells #[.string x.s,int i64 x.c,int i64 x.r,int i64 x.a1,int i64 x.b1,int i64 x.a2,int i64 x.b2,int i64 x.a3,int i64 x.b3,int i64 x.a4,int i64 x.b4] 78)) (.cells #[int i64 (r:Int),int i64 0,int i64 x.r,int i64 x.c,int i64 (i:Int)] 51);rw [hW1] at this
       simpa using this)
      have hwz:w.heap.size+2<=wp.heap.size:=(by have:=(bL HS2.out.res);omega);have hgbl:gb < wp.heap.size:=(bL HS2.out.grd);have hvb:∀ b,(Value.slice va gs.length vcp).ownBlock=some b->b < wp.heap.size:=λb hb=>(z2d HS2.out.own hb).2;have HS3:=O (HS2.out.kept KW);clear hW1 KW t0 t1 t2 t3 t4 v0 v1 v2 v3 v4 v5 v6 v7 v8' v9' v10' hu HS2;have hne:=z0H W1;have hlw:w.heap.size < W1.heap.size:=(by omega);have q0:=zm (a:=⟨w.heap.size,0,none⟩) (v:=.slice ac t.cols.length cc) hlw (zf HS3.out.tbl);have q1:=zm (a:=⟨w.heap.size,1,none⟩) (v:=int i64 t.head) hlw (zf HS3.out.tbl);have q2:=zm (a:=⟨w.heap.size,2,none⟩) (v:=int i64 t.foot) hlw (zf HS3.out.tbl);have q3:=zm (a:=⟨w.heap.size,3,none⟩) (v:=.slice (some ⟨g,off,none⟩) t.rows.length cr) hlw (zf HS3.out.tbl);have q4:=zm (a:=⟨w.heap.size,4,none⟩) (v:=int i64 t.gap) hlw (zf HS3.out.tbl);have q5:=zm (a:=⟨wp.heap.size+1,2,none⟩) (v:=int i64 x.r) (by show wp.heap.size+1 < _;omega) (zf HCB.out);refine zv hmx (by kernel_rfl) ?_;repeat (go_big_quiet_step (first | (go_at_call 83;refine z4z (KE.out _))))
      refine wpQuiet_nil ?_;intro W2 hw';obtain ⟨⟨Wx,hW2⟩,hw''⟩:=hw';subst hw'';have HS4:=O (HS3.out.kept hW2);have HCB2:=O (z0W HCB.out hW2);clear q0 q1 q2 q3 q4 q5 hne HS3 HCB hW2
      go_upto_if 57 with fail
      go_cut [7] (λs W=>s=.pointer (some ⟨wp.heap.size+1,0,none⟩)/\Hid (SG w gb ac (some ⟨g,off,none⟩) cc cr t C2 (.slice va gs.length vcp) gs W)/\Hid (W.heap[wp.heap.size+1]?=some (.cells #[int i64 (r:Int),int i64 0,int i64 rr,int i64 x.c,int i64 (i:Int)] 51)))
      case first =>
       obtain ⟨⟨t0,t1,t2,t3,t4⟩,_⟩:=z2C HS4.out.tbl;by_cases hgt:z03 t r < (r:Int)+x.r
       ·have hrv:z03 t r - r=rr:=(by have:=HER.out;omega);go_wp2_with fail
        refine (KE.out _).mono ?_;rintro e w5 ⟨rfl,hb5⟩;have hCB5:=z0W HCB2.out hb5;have c2:w5.cell? ⟨wp.heap.size+1,2,none⟩=some (int i64 x.r):=zf hCB5;have f2:w5.frozen? ⟨wp.heap.size+1,2,none⟩=false:=zS hCB5;have HS5:Hid (SG w gb ac (some ⟨g,off,none⟩) cc cr t C2 (.slice va gs.length vcp) gs (w5.setCell ⟨wp.heap.size+1,2,none⟩ (int i64 rr))):=(HS4.out.kept hb5).bkc ((Bk.refl (wp.heap.size+1) w5).set (p:=⟨wp.heap.size+1,2,none⟩) (.inl rfl) _) (by omega) (by omega) (λb hb=>by have:=hvb b hb;omega);have HCB5:Hid ((w5.setCell ⟨wp.heap.size+1,2,none⟩ (int i64 rr)).heap[wp.heap.size+1]?=some (.cells #[int i64 (r:Int),int i64 0,int i64 rr,int i64 x.c,int i64 (i:Int)] 51)):=z0s hCB5 _;clear hCB5 hb5 t0 t1 t2 t3 t4;go_wp2_with fail
        go_meet
        case rel=>exact ⟨rfl,HS5,HCB5⟩
       ·have hrv:x.r=rr:=(by have:=HER.out;omega);go_wp2_with fail
        go_meet
        case rel=>exact ⟨rfl,HS4,by rw [<-hrv];exact HCB2⟩
      case rest =>
       obtain ⟨rfl,HS5,HC5⟩:=hcut;clear HS4 HCB2;have KF:Hid (∀ (k:Nat) (W:World),k<=F->z1K W (w.heap.size+2) (.slice va gs.length vcp) gs->Calls prog 84 #[.slice va gs.length vcp,.agg #[int i64 (r:Int),int i64 (k:Int),int i64 rr,int i64 x.c,int i64 (i:Int)]] W λe w'=>e=.returned (.bool (z1k gs ⟨r,k,rr,x.c,i⟩))/\Below W.heap.size W w'):=λk W hk hG=>z9V va vcp gs (λa ha=>(HGS.out a ha).sm hn8) ⟨r,k,rr,x.c,i⟩ ((HF4.out k (by omega)).sm hn8) W hG;have HAT:Hid (∀ W,z9l W (w.heap.size+2) (.slice va gs.length vcp) gs->z1K W (w.heap.size+2) (.slice va gs.length vcp) gs):=λW h=>h.at (λa ha=>(HGS.out a ha).gok hn8);go_wp2_with fail
       go_loopg [64] (F+1) (λkx _ W=>∃ k:Nat,k<=F/\F+1 - k<=kx/\Hid (SG w gb ac (some ⟨g,off,none⟩) cc cr t C2 (.slice va gs.length vcp) gs W)/\Hid (W.heap[wp.heap.size+1]?=some (.cells #[int i64 (r:Int),int i64 (k:Int),int i64 rr,int i64 x.c,int i64 (i:Int)] 51)))
       case atStart=>exact ⟨0,by omega,by omega,HS5,HC5⟩
       case round =>
        obtain ⟨k,hkF,hkx3,HS6,HC6⟩:=hrel;clear HS5 HC5;obtain ⟨⟨b0,b1,b2,b3,b4⟩,fb0,fb1,fb2,fb3,fb4⟩:=z2C HC6.out;obtain ⟨⟨a0,a1,a2⟩,fa0,fa1,fa2⟩:=z3U HS6.out.grd;have hk90:(k:Int) < 90:=(by omega);by_cases hkF2:k < F
        ·have hfr:=HF3.out k hkF2;have KF2:=O (KF.out k wr hkF (HAT.out _ HS6.out.own));rw [hfr] at KF2;clear hfr;go_wp2_with fail
         refine KF2.out.mono ?_;rintro e w7 ⟨rfl,hb7⟩;have hC7:=z0W HC6.out hb7;have c1:w7.cell? ⟨wp.heap.size+1,1,none⟩=some (int i64 (k:Int)):=zf hC7;have f1:w7.frozen? ⟨wp.heap.size+1,1,none⟩=false:=zS hC7;have HS7:Hid (SG w gb ac (some ⟨g,off,none⟩) cc cr t C2 (.slice va gs.length vcp) gs (w7.setCell ⟨wp.heap.size+1,1,none⟩ (int i64 ((k:Int)+1)))):=(HS6.out.kept hb7).bkc ((Bk.refl (wp.heap.size+1) w7).set (p:=⟨wp.heap.size+1,1,none⟩) (.inl rfl) _) (by omega) (by omega) (λb hb=>by have:=hvb b hb;omega);have HC7:Hid ((w7.setCell ⟨wp.heap.size+1,1,none⟩ (int i64 ((k:Int)+1))).heap[wp.heap.size+1]?=some (.cells #[int i64 (r:Int),int i64 ((k:Int)+1),int i64 rr,int i64 x.c,int i64 (i:Int)] 51)):=z0s hC7 _;clear hC7 hb7 HS6 HC6 KF2 b0 b1 b2 b3 b4 a0 a1 a2 fb0 fb1 fb2 fb3 fb4 fa0 fa1 fa2;go_wp2;go_roundg (gk - 1)
         case measure=>omega
         case rel=>exact ⟨k+1,by omega,by omega,HS7,HC7⟩
        ·obtain rfl:k=F:=by omega
         have hfr:=HF2.out;have KF2:=O (KF.out k wr hkF (HAT.out _ HS6.out.own));rw [hfr] at KF2;clear hfr;obtain ⟨i0,hi0,hz0',hz1',hz2'⟩:=info_parts zgo;go_wp2_with fail
         refine KF2.out.mono ?_;rintro e w7 ⟨rfl,hb7⟩;have hS7:=HS6.out.kept hb7;have hC7:=z0W HC6.out hb7;obtain ⟨⟨d0,d1,d2,d3,d4⟩,_⟩:=z2C hC7;obtain ⟨⟨e0,e1,e2⟩,_⟩:=z3U hS7.grd;have hla:=ze (Below.refl w7.heap.size w7) (.cells #[int i64 (r:Int),int i64 (k:Int),int i64 rr,int i64 x.c,int i64 (i:Int)] 51);have hSA:=hS7.kept hla;have hCA:=z0W hC7 hla;have hXN:=zj w7 (.cells #[int i64 (r:Int),int i64 (k:Int),int i64 rr,int i64 x.c,int i64 (i:Int)] 51);have hz7:w.heap.size+2<=w7.heap.size:=(by have:=(bL hS7.res);omega);clear b0 b1 b2 b3 b4 a0 a1 a2 fb0 fb1 fb2 fb3 fb4 fa0 fa1 fa2 KF2;go_wp2_with (at_builtin;refine wpList_append_own _ rfl _ _ 36 rfl (w.heap.size+2) 51 i0 _ 5 40 underlying36 hi0 hz0' hz1' hz2' rfl (by decide) _ _ _ rfl hSA.own ⟨w7.heap.size,0,none⟩ 1 1 (z6U ⟨r,k,rr,x.c,i⟩) rfl rfl (z0K hXN) (by simp [z6U,Value.oneCell']) (by unfold maxLen;omega) (by omega) (by simp;omega) ?_)
         intro v' w8 hown' hg' _;have hUb:∀ b,(Value.slice va gs.length vcp).ownBlock=some b->w.heap.size+2<=b:=λb hb=>(z2d hSA.own hb).1;have hB8:Below w.heap.size w w8:=hSA.bel.grown hg' hSA.bel.size (λj e=>by have:=hUb j e;omega);have hT8:=z06 hSA.tbl hg' (z0e (zt hSA.own hSA.tbl (by decide)));have hR8:=z06 hSA.res hg' (z0e (zt hSA.own hSA.res (by decide)));have hG8:=z06 hSA.grd hg' (z0e (zt hSA.own hSA.grd (by decide)));have hC8:=z06 hCA hg' (zey (λb hb=>by have:=hvb b hb;omega));obtain ⟨ve,vq,rfl,_⟩:=zP hown'
         have hO8:w8.ownsRow (w.heap.size+2) 51 5 (.slice ve (gs.length+1) vq) (gs ++ [(⟨r,k,rr,x.c,i⟩:GC)]).length ((gs ++ [(⟨r,k,rr,x.c,i⟩:GC)]).flatMap z6U):=by
          rw [List.length_append,List.flatMap_append]
          simpa using hown'
         have hgc:gb ≠ wp.heap.size+1:=(by omega);have g2:w8.cell? ⟨gb,2,none⟩=some (.slice va gs.length vcp):=zf hG8;have gf2:w8.frozen? ⟨gb,2,none⟩=false:=zS hG8;have hG9:(w8.setCell ⟨gb,2,none⟩ (.slice ve (gs.length+1) vq)).heap[gb]?=some (.cells #[int i64 (t.rows.length:Int),int i64 C2,(.slice ve (gs.length+1) vq)] 38):=z0s hG8 _;have hC9:(w8.setCell ⟨gb,2,none⟩ (.slice ve (gs.length+1) vq)).heap[wp.heap.size+1]?=some (.cells #[int i64 (r:Int),int i64 (k:Int),int i64 rr,int i64 x.c,int i64 (i:Int)] 51):=(bS (λe=>hgc e.symm)).trans hC8;have hS9:SG w gb ac (some ⟨g,off,none⟩) cc cr t C2 (.slice ve (gs.length+1) vq) (gs ++ [(⟨r,k,rr,x.c,i⟩:GC)]) (w8.setCell ⟨gb,2,none⟩ (.slice ve (gs.length+1) vq)):=⟨hB8.setCell (by show _<=gb;omega) _,(bS (by show _ ≠ gb;omega)).trans hT8,(bS (by show _ ≠ gb;omega)).trans hR8,hG9,z17 hO8 hG8 (by decide) _⟩;have HS9:=O hS9;have HC9:=O hC9;clear hown' hg' hUb hB8 hT8 hR8 hG8 hC8 hO8 hSA hCA hXN hla hS7 hC7 d0 d1 d2 d3 d4 e0 e1 e2 HS6 HC6 hb7 hG9 hC9 hS9;go_upto_region 15 with fail
         clear g2 gf2;generalize w8.setCell ⟨gb,2,none⟩ (.slice ve (gs.length+1) vq)=w9 at HS9 HC9 |-;obtain ⟨⟨j0,j1,j2,j3,j4⟩,_⟩:=z2C HC9.out;obtain ⟨⟨l0,l1,l2⟩,m0,m1,m2⟩:=z3U HS9.out.grd;have HSZ:Hid (SG w gb ac (some ⟨g,off,none⟩) cc cr t (max C2 ((k:Int)+x.c)) (.slice ve (gs.length+1) vq) (gs ++ [(⟨r,k,rr,x.c,i⟩:GC)]) (w9.setCell ⟨gb,1,none⟩ (int i64 (max C2 ((k:Int)+x.c))))):=⟨HS9.out.bel.setCell (by show _<=gb;omega) _,(bS (by show _ ≠ gb;omega)).trans HS9.out.tbl,(bS (by show _ ≠ gb;omega)).trans HS9.out.res,z0s HS9.out.grd _,z17 HS9.out.own HS9.out.grd (by decide) _⟩;have HCZ:Hid (max C2 ((k:Int)+x.c)=z0x (max 1 (t.cols.length:Int)) (gs ++ [(⟨r,k,rr,x.c,i⟩:GC)])):=O (by rw [z5F,<-HC2.out]);rw [<-HNX.out] at HSZ HCZ;generalize hmx2:max C2 ((k:Int)+x.c)=CN at HSZ HCZ;have KM:=O (λW=>z34 C2 ((k:Int)+x.c) W);rw [hmx2] at KM;clear hmx2 HS9 HC9;go_wp2_with fail
         refine (KM.out _).mono ?_;rintro e w10 ⟨rfl,rfl⟩;go_wp2;go_roundg (cs.length - (i+1))
         case measure=>omega
         case rel=>exact ⟨i+1,CN,(.slice ve (gs.length+1) vq),by go_num,by omega,by omega,HCZ,HSZ⟩
     ·obtain rfl:i=cs.length:=by omega
      have HSE:Hid (SG w gb ac (some ⟨g,off,none⟩) cc cr t C2 vg2 (z0a t (r+1)) wp):=by
       show SG _ _ _ _ _ _ _ _ _ (z1X (z03 t r) r (t.rows.getD r dR).cells (z0a t r) (t.rows.getD r dR).cells.length) _;rw [HE.out];exact HS2.out
      have HCE:Hid (C2=z0x (max 1 (t.cols.length:Int)) (z0a t (r+1))):=by
       show C2=z0x _ (z1X (z03 t r) r (t.rows.getD r dR).cells (z0a t r) (t.rows.getD r dR).cells.length);rw [HE.out];exact HC2.out
      clear HS2 HC2 hcs hwh;go_wp2;go_roundg (t.rows.length - (r+1))
      case measure=>omega
      case rel=>exact ⟨r+1,C2,vg2,by go_num,by omega,by omega,HCE,HSE⟩
   ·obtain rfl:r=t.rows.length:=by omega
    obtain ⟨va,vq,rfl,_⟩:=zP HS1.out.own;obtain ⟨⟨l0,l1,l2⟩,_⟩:=z3U HS1.out.grd;obtain ⟨⟨x0,x1,x2⟩,y0,y1,y2⟩:=z3U HS1.out.res;have h1:=z0s (p:=0) HS1.out.res (int i64 (t.rows.length:Int));have h2:=z0s (p:=1) h1 (int i64 C);have o1:=z17 (p:=0) HS1.out.own HS1.out.res (by decide) (int i64 (t.rows.length:Int));have o2:=z17 (p:=1) o1 h1 (by decide) (int i64 C);have o3:=z17 (p:=2) o2 h2 (by decide) (.slice va (z0a t t.rows.length).length vq);have HO:=O (z5j o3 (by omega:w.heap.size<=w.heap.size+2));have HB:=O (((HS1.out.bel.setCell (p:=⟨w.heap.size+1,0,none⟩) (by show _<=w.heap.size+1;omega) (int i64 (t.rows.length:Int))).setCell (p:=⟨w.heap.size+1,1,none⟩) (by show _<=w.heap.size+1;omega) (int i64 C)).setCell (p:=⟨w.heap.size+1,2,none⟩) (by show _<=w.heap.size+1;omega) (.slice va (z0a t t.rows.length).length vq));clear h1 h2 o1 o2 o3 HS1;go_wp2;exact bodyPost_ret (v:=.agg #[int i64 (t.rows.length:Int),int i64 C,(.slice va (z0a t t.rows.length).length vq)]) (by simp [results,results48,go_sem,x0,x1,x2]) rfl ⟨_,by rw [HCC.out];rfl,HO.out,HB.out⟩
end
section
open Go.RowKit
theorem z3V (a b:Int) (w:World) :
  Calls prog 155 #[.agg #[int i64 a,int i64 b]] w λe w'=>e=.returned (.bool (z1n a b))/\w'=w.alloc (.cells #[int i64 a,int i64 b] 76):=by
 by_cases h0:a=0
 ·subst h0;go_enter func155,ntmps155;go_wp2;go_ret;exact ⟨zV (zcp b).symm,rfl⟩
 by_cases h4:a=4
 ·subst h4;go_enter func155,ntmps155;go_wp2;go_ret;exact ⟨zV (zcq b).symm,rfl⟩
 by_cases h1:a=1
 ·subst h1;go_enter func155,ntmps155;go_wp2_with (go_at_call 69;refine (zW _ _ _ _).mono ?_;rintro e w' ⟨rfl,rfl⟩)
  go_ret;exact ⟨zV (z7j b (by omega) (by omega)).symm,rfl⟩
 by_cases h2:a=2
 ·subst h2;go_enter func155,ntmps155;go_wp2_with (go_at_call 69;refine (zW _ _ _ _).mono ?_;rintro e w' ⟨rfl,rfl⟩)
  go_ret;exact ⟨zV (z7j b (by omega) (by omega)).symm,rfl⟩
 by_cases h3:a=3
 ·subst h3;go_enter func155,ntmps155;go_wp2_with (go_at_call 69;refine (zW _ _ _ _).mono ?_;rintro e w' ⟨rfl,rfl⟩)
  go_ret;exact ⟨zV (z7j b (by omega) (by omega)).symm,rfl⟩
 have e0:(a == 0)=false:=beq_eq_false_iff_ne.2 h0;have e1:(a == 1)=false:=beq_eq_false_iff_ne.2 h1;have e2:(a == 2)=false:=beq_eq_false_iff_ne.2 h2;have e3:(a == 3)=false:=beq_eq_false_iff_ne.2 h3;have e4:(a == 4)=false:=beq_eq_false_iff_ne.2 h4;have HB:Hid (z1n a b=false):=zbe b h0 h4 (by omega);clear h0 h1 h2 h3 h4;go_enter func155,ntmps155;go_wp2;go_ret;exact ⟨zV HB.out.symm,rfl⟩
theorem z9Z (s:ByteArray) (c r a1 b1 a2 b2 a3 b3 a4 b4:Int) (w:World) (hs:s.size<=maxLen) :
  Calls prog 139 #[.agg #[.string s,int i64 c,int i64 r,int i64 a1,int i64 b1,int i64 a2,int i64 b2,int i64 a3,int i64 b3,int i64 a4,int i64 b4]] w λe w'=>e=.returned (.bool (z0p s c r a1 b1 a2 b2 a3 b3 a4 b4))/\Below w.heap.size w w':=by
 cases h0:z0u s
 ·
  as_aux_lemma =>
   have HB:Hid (z0p s c r a1 b1 a2 b2 a3 b3 a4 b4=false):=Hid.mk (by simp [z0p,h0]);go_enter func139,ntmps139;go_wp2_with (first | (go_at_call 37;refine (z2p _ _ hs).mono ?_;rintro e w' ⟨rfl,rfl⟩) | (go_at_call 69;refine (zW _ _ _ _).mono ?_;rintro e w' ⟨rfl,rfl⟩) | (go_at_call 155;refine (z3V _ _ _).mono ?_;rintro e w' ⟨rfl,rfl⟩))
   go_ret;exact ⟨zV HB.out.symm,by repeat (first | exact bR | apply ze)⟩
 cases h1:zM c 1 4
 ·
  as_aux_lemma =>
   have HB:Hid (z0p s c r a1 b1 a2 b2 a3 b3 a4 b4=false):=Hid.mk (by simp [z0p,h0,h1]);go_enter func139,ntmps139;go_wp2_with (first | (go_at_call 37;refine (z2p _ _ hs).mono ?_;rintro e w' ⟨rfl,rfl⟩) | (go_at_call 69;refine (zW _ _ _ _).mono ?_;rintro e w' ⟨rfl,rfl⟩) | (go_at_call 155;refine (z3V _ _ _).mono ?_;rintro e w' ⟨rfl,rfl⟩))
   go_ret;exact ⟨zV HB.out.symm,by repeat (first | exact bR | apply ze)⟩
 cases h2:zM r 1 4
 ·
  as_aux_lemma =>
   have HB:Hid (z0p s c r a1 b1 a2 b2 a3 b3 a4 b4=false):=Hid.mk (by simp [z0p,h0,h1,h2]);go_enter func139,ntmps139;go_wp2_with (first | (go_at_call 37;refine (z2p _ _ hs).mono ?_;rintro e w' ⟨rfl,rfl⟩) | (go_at_call 69;refine (zW _ _ _ _).mono ?_;rintro e w' ⟨rfl,rfl⟩) | (go_at_call 155;refine (z3V _ _ _).mono ?_;rintro e w' ⟨rfl,rfl⟩))
   go_ret;exact ⟨zV HB.out.symm,by repeat (first | exact bR | apply ze)⟩
 cases h3:z1n a1 b1
 ·
  as_aux_lemma =>
   have HB:Hid (z0p s c r a1 b1 a2 b2 a3 b3 a4 b4=false):=Hid.mk (by simp [z0p,h0,h1,h2,h3]);go_enter func139,ntmps139;go_wp2_with (first | (go_at_call 37;refine (z2p _ _ hs).mono ?_;rintro e w' ⟨rfl,rfl⟩) | (go_at_call 69;refine (zW _ _ _ _).mono ?_;rintro e w' ⟨rfl,rfl⟩) | (go_at_call 155;refine (z3V _ _ _).mono ?_;rintro e w' ⟨rfl,rfl⟩))
   go_ret;exact ⟨zV HB.out.symm,by repeat (first | exact bR | apply ze)⟩
 cases h4:z1n a2 b2
 ·
  as_aux_lemma =>
   have HB:Hid (z0p s c r a1 b1 a2 b2 a3 b3 a4 b4=false):=Hid.mk (by simp [z0p,h0,h1,h2,h3,h4]);go_enter func139,ntmps139;go_wp2_with (first | (go_at_call 37;refine (z2p _ _ hs).mono ?_;rintro e w' ⟨rfl,rfl⟩) | (go_at_call 69;refine (zW _ _ _ _).mono ?_;rintro e w' ⟨rfl,rfl⟩) | (go_at_call 155;refine (z3V _ _ _).mono ?_;rintro e w' ⟨rfl,rfl⟩))
   go_ret;exact ⟨zV HB.out.symm,by repeat (first | exact bR | apply ze)⟩
 cases h5:z1n a3 b3
 ·
  as_aux_lemma =>
   have HB:Hid (z0p s c r a1 b1 a2 b2 a3 b3 a4 b4=false):=Hid.mk (by simp [z0p,h0,h1,h2,h3,h4,h5]);go_enter func139,ntmps139;go_wp2_with (first | (go_at_call 37;refine (z2p _ _ hs).mono ?_;rintro e w' ⟨rfl,rfl⟩) | (go_at_call 69;refine (zW _ _ _ _).mono ?_;rintro e w' ⟨rfl,rfl⟩) | (go_at_call 155;refine (z3V _ _ _).mono ?_;rintro e w' ⟨rfl,rfl⟩))
   go_ret;exact ⟨zV HB.out.symm,by repeat (first | exact bR | apply ze)⟩
 as_aux_lemma =>
  have HB:Hid (z0p s c r a1 b1 a2 b2 a3 b3 a4 b4=z1n a4 b4):=Hid.mk (by simp [z0p,h0,h1,h2,h3,h4,h5]);go_enter func139,ntmps139;go_wp2_with (first | (go_at_call 37;refine (z2p _ _ hs).mono ?_;rintro e w' ⟨rfl,rfl⟩) | (go_at_call 69;refine (zW _ _ _ _).mono ?_;rintro e w' ⟨rfl,rfl⟩) | (go_at_call 155;refine (z3V _ _ _).mono ?_;rintro e w' ⟨rfl,rfl⟩))
  go_ret;exact ⟨zV HB.out.symm,by repeat (first | exact bR | apply ze)⟩
theorem zcc (n:Int) (w:World):(Instr.typeAssert (.iface 186 (.agg #[int i64 n])) 173 188 true).run prog w=.ok (.tuple #[.agg #[int i64 0],.bool false]) w:=by kernel_rfl
theorem zcE (n:Int) (w:World):(Instr.typeAssert (.iface 186 (.agg #[int i64 n])) 173 190 true).run prog w=.ok (.tuple #[.agg #[int i64 0],.bool false]) w:=by kernel_rfl
theorem zaN (n:Int) (w:World):(Instr.typeAssert (.iface 188 (.agg #[int i64 n])) 173 188 true).run prog w=.ok (.tuple #[.agg #[int i64 n],.bool true]) w:=by kernel_rfl
theorem zcd (n:Int) (w:World):(Instr.typeAssert (.iface 190 (.agg #[int i64 n])) 173 188 true).run prog w=.ok (.tuple #[.agg #[int i64 0],.bool false]) w:=by kernel_rfl
theorem zcF (n:Int) (w:World):(Instr.typeAssert (.iface 190 (.agg #[int i64 n])) 173 190 true).run prog w=.ok (.tuple #[.agg #[int i64 n],.bool true]) w:=by kernel_rfl
theorem zjo (n : Int) (w : World) : (method 327 186 (.agg #[.int .i64 n]) "loop.example/panework/impl.number").run Tryz.prog w = .ok (191, .agg #[.int .i64 n]) w := by kernel_rfl
theorem zid (n : Int) (w : World) : (method 327 188 (.agg #[.int .i64 n]) "loop.example/panework/impl.number").run Tryz.prog w = .ok (192, .agg #[.int .i64 n]) w := by kernel_rfl
theorem zjp (n : Int) (w : World) : (method 327 190 (.agg #[.int .i64 n]) "loop.example/panework/impl.number").run Tryz.prog w = .ok (193, .agg #[.int .i64 n]) w := by kernel_rfl
theorem z8a (k n:Int) (w:World) :
  Calls prog 111 #[.agg #[int i64 k,int i64 n]] w λe w'=>e=.returned (.bool (z2w k n))/\Below w.heap.size w w':=by
 by_cases h0:k=0
 ·subst h0;have t1:=λw=>zcc n w;have t2:=λw=>zcE n w;have t3:=λw=>zjo n w;have HC:=O (zk5 n);go_enter func111,ntmps111;go_wp2_with (first | (go_at_call 69;refine (zW _ _ _ _).mono ?_;rintro e w' ⟨rfl,rfl⟩) | go_in)
  go_ret;exact ⟨zV HC.out.symm,by repeat (first | refine ze ?_ _ | exact bR)⟩
 by_cases h1:k=1
 ·subst h1;have t1:=λw=>zaN n w;have t3:=λw=>zid n w;have HC:=O (zg4 n);go_enter func111,ntmps111;go_wp2_with (first | (go_at_call 69;refine (zW _ _ _ _).mono ?_;rintro e w' ⟨rfl,rfl⟩) | go_in)
  go_ret;exact ⟨zV HC.out.symm,by repeat (first | refine ze ?_ _ | exact bR)⟩
 by_cases h2:k=2
 ·subst h2;have t1:=λw=>zcd n w;have t2:=λw=>zcF n w;have t3:=λw=>zjp n w;have HC:=O (zg5 n);go_enter func111,ntmps111;go_wp2_with (first | (go_at_call 69;refine (zW _ _ _ _).mono ?_;rintro e w' ⟨rfl,rfl⟩) | go_in)
  go_ret;exact ⟨zV HC.out.symm,by repeat (first | refine ze ?_ _ | exact bR)⟩
 have e0:(k == 0)=false:=beq_eq_false_iff_ne.2 h0;have e1:(k == 1)=false:=beq_eq_false_iff_ne.2 h1;have e2:(k == 2)=false:=beq_eq_false_iff_ne.2 h2;have HC:=O (zep n h0 h1 h2);clear h0 h1 h2;go_enter func111,ntmps111;go_wp2;go_ret;exact ⟨zV HC.out.symm,by repeat (first | refine ze ?_ _ | exact bR)⟩
theorem z7R (v:Value) (ps:List (Int × Int)) (w:World) {z:Nat} (h:z09 w z v ps) :
  Calls prog 79 #[v] w λe w'=>e=.returned (.bool (z2k ps))/\Below w.heap.size w w':=by
 obtain ⟨a,cap,rfl,hlen⟩:=At.form h;unfold maxLen at hlen;have H:=O h;clear h;by_cases h8:(8:Int) < (ps.length:Int)
 ·have HF:Hid (z2k ps=false):=Hid.intro (by have:¬ ps.length≤8:=by omega
                                            simp [z2k,this])
  go_enter func79,ntmps79;go_wp2;go_ret;exact ⟨zV HF.out.symm,bR⟩
 ·have h8':ps.length<=8:=(by omega);go_enter func79,ntmps79;go_wp2_with fail
  go_loopw [4,10] (λ_ i W=>∃ k:Nat,k<=ps.length/\i=int i64 k/\Hid (∀ j,j < k->(λp:Int × Int=>z2w p.1 p.2) (ps.getD j (0,0))=true)/\Hid (Below w.heap.size w W)) (λ_ i _=>ps.length - (intOf i).toNat)
  case atStart=>exact ⟨0,nZ,rfl,λj hj=>absurd hj (Nat.not_lt_zero _),bR⟩
  case round =>
   obtain ⟨k,hk,rfl,HA,HB⟩:=hrel;by_cases hlt:k < ps.length
   ·obtain ⟨b,off,cap',e',hc1,hc2,hbl,hx0,hx1⟩:=At.get (H.out.kept HB.out) hlt;simp only [Value.slice.injEq,true_and] at e';obtain ⟨rfl,rfl⟩:=e';unfold maxLen at hc2
    cases hv:z2w (ps.getD k (0,0)).1 (ps.getD k (0,0)).2
    ·have HF:Hid (z2k ps=false):=O (by rw [z2k,z4O (0,0) (λp:Int × Int=>z2w p.1 p.2) ps k hlt hv,Bool.and_false]);generalize ps.getD k (0,0)=x at hx0 hx1 hv;go_wp2_with fail
     refine (z8a _ _ _).mono ?_;rw [hv];rintro e w1 ⟨rfl,hb1⟩;have K1:=O (zi (ze HB.out _) hb1);clear hb1;go_wp2;go_ret;exact ⟨zV HF.out.symm,K1.out⟩
    ·have HN:=O (z4P (p:=λp:Int × Int=>z2w p.1 p.2) HA.out hv);generalize ps.getD k (0,0)=x at hx0 hx1 hv;go_wp2_with fail
     refine (z8a _ _ _).mono ?_;rw [hv];rintro e w1 ⟨rfl,hb1⟩;have K1:=O (zi (ze HB.out _) hb1);clear hb1;go_wp2;go_roundw
     case rel=>exact ⟨k+1,by omega,by go_num,HN,K1⟩
     case measure=>simp [intOf];omega
   ·obtain rfl:k=ps.length:=by omega
    have HF:Hid (z2k ps=true):=O (by rw [z2k,z5k (0,0) (λp:Int × Int=>z2w p.1 p.2) ps HA.out];simp [h8']);go_wp2;go_ret;exact ⟨zV HF.out.symm,HB.out⟩
theorem zbl (u:Value) (r:R) (w:World) {z:Nat} (h:z30 w z u r.cells) :
  Calls prog 112 #[.agg #[u,.bool r.whole]] w λe w'=>e=.returned (.bool (z2g r))/\Below w.heap.size w w':=by
 obtain ⟨a,cap,rfl,hlen⟩:=At.form h;unfold maxLen at hlen;have H:=O h;clear h;by_cases h8:(5:Int) < (r.cells.length:Int)
 ·have HF:Hid (z2g r=false):=Hid.intro (by have:¬ r.cells.length≤5:=by omega
                                           simp [z2g,this])
  go_enter func112,ntmps112;go_wp2;go_ret;exact ⟨zV HF.out.symm,ze bR _⟩
 ·have h8':r.cells.length<=5:=(by omega);go_enter func112,ntmps112;go_wp2_with fail
  go_loopw [4,12] (λ_ i W=>∃ k:Nat,k<=r.cells.length/\i=int i64 k/\Hid (∀ j,j < k->cB (r.cells.getD j dC)=true)/\Hid (Below w.heap.size w W)) (λ_ i _=>r.cells.length - (intOf i).toNat)
  case atStart=>exact ⟨0,nZ,rfl,λj hj=>absurd hj (Nat.not_lt_zero _),ze bR _⟩
  case round =>
   obtain ⟨k,hk,rfl,HA,HB⟩:=hrel;by_cases hlt:k < r.cells.length
   ·obtain ⟨b,off,cap',e',hc1,hc2,hbl,hx,hs⟩:=At.get (H.out.kept HB.out) hlt;simp only [Value.slice.injEq,true_and] at e';obtain ⟨rfl,rfl⟩:=e';unfold maxLen at hc2;have hs':=O hs
    cases hv:cB (r.cells.getD k dC)
    ·have HF:Hid (z2g r=false):=O (by rw [z2g,z4O dC cB r.cells k hlt hv,Bool.and_false]);generalize r.cells.getD k dC=x at hx hs' hv;obtain ⟨x0,x1,x2,x3,x4,x5,x6,x7,x8,x9,x10⟩:=hx;clear hs;go_wp2_with fail
     refine (z9Z _ _ _ _ _ _ _ _ _ _ _ _ hs'.out).mono ?_;rw [show z0p x.s x.c x.r x.a1 x.b1 x.a2 x.b2 x.a3 x.b3 x.a4 x.b4=false from hv];rintro e w1 ⟨rfl,hb1⟩;have K1:=O (zi (ze HB.out _) hb1);clear hb1;go_wp2;go_ret;exact ⟨zV HF.out.symm,K1.out⟩
    ·have HN:=O (z4P HA.out hv);generalize r.cells.getD k dC=x at hx hs' hv;obtain ⟨x0,x1,x2,x3,x4,x5,x6,x7,x8,x9,x10⟩:=hx;clear hs;go_wp2_with fail
     refine (z9Z _ _ _ _ _ _ _ _ _ _ _ _ hs'.out).mono ?_;rw [show z0p x.s x.c x.r x.a1 x.b1 x.a2 x.b2 x.a3 x.b3 x.a4 x.b4=true from hv];rintro e w1 ⟨rfl,hb1⟩;have K1:=O (zi (ze HB.out _) hb1);clear hb1;go_wp2;go_roundw
     case rel=>exact ⟨k+1,by omega,by go_num,HN,K1⟩
     case measure=>simp [intOf];omega
   ·obtain rfl:k=r.cells.length:=by omega
    have HF:Hid (z2g r=true):=O (by rw [z2g,z5k dC cB r.cells HA.out];simp [h8']);go_wp2;go_ret;exact ⟨zV HF.out.symm,HB.out⟩
theorem zfb (v:Value) (rs:List R) (w:World) {z:Nat} (h:z05 w z v rs) :
  Calls prog 80 #[v] w λe w'=>e=.returned (.bool (rs.all z2g))/\Below w.heap.size w w':=by
 obtain ⟨a,cap,rfl,hlen⟩:=At.form h;unfold maxLen at hlen;have H:=O h;clear h;go_enter func80,ntmps80;go_wp2_with fail
 go_loopw [4,7] (λ_ i W=>∃ k:Nat,k<=rs.length/\i=int i64 k/\Hid (∀ j,j < k->z2g (rs.getD j dR)=true)/\Hid (Below w.heap.size w W)) (λ_ i _=>rs.length - (intOf i).toNat)
 case atStart=>exact ⟨0,nZ,rfl,λj hj=>absurd hj (Nat.not_lt_zero _),bR⟩
 case round =>
  obtain ⟨k,hk,rfl,HA,HB⟩:=hrel;by_cases hlt:k < rs.length
  ·obtain ⟨b,off,cap',e',hc1,hc2,hbl,u,hx0,hx1,hx⟩:=At.get (H.out.kept HB.out) hlt;simp only [Value.slice.injEq,true_and] at e';obtain ⟨rfl,rfl⟩:=e';unfold maxLen at hc2;obtain ⟨ua,ucap,rfl,_⟩:=At.form hx;have HX:=O hx;clear hx
   cases hv:z2g (rs.getD k dR)
   ·have HF:Hid (rs.all z2g=false):=O (z4O dR z2g rs k hlt hv);generalize rs.getD k dR=x at hx0 hx1 hv HX;go_wp2_with fail
    refine (zbl _ x _ (HX.out.kept (ze bR _))).mono ?_;rw [hv];rintro e w1 ⟨rfl,hb1⟩;have K1:=O (zi (ze HB.out _) hb1);clear hb1;go_wp2;go_ret;exact ⟨zV HF.out.symm,K1.out⟩
   ·have HN:=O (z4P HA.out hv);generalize rs.getD k dR=x at hx0 hx1 hv HX;go_wp2_with fail
    refine (zbl _ x _ (HX.out.kept (ze bR _))).mono ?_;rw [hv];rintro e w1 ⟨rfl,hb1⟩;have K1:=O (zi (ze HB.out _) hb1);clear hb1;go_wp2;go_roundw
    case rel=>exact ⟨k+1,by omega,by go_num,HN,K1⟩
    case measure=>simp [intOf];omega
  ·obtain rfl:k=rs.length:=by omega
   have HF:Hid (rs.all z2g=true):=O (z5k dR z2g rs HA.out);go_wp2;go_ret;exact ⟨zV HF.out.symm,HB.out⟩
theorem z5G (vc:Value) (ar:Option Addr) (n cr:Nat) (hd ft gp:Int) (a:Option Addr) (m c:Nat) (hvc:vc=.slice a m c) (hn:n<=4611686018427387903) (w:World) :
  Calls prog 78 #[.agg #[vc,int i64 hd,int i64 ft,.slice ar n cr,int i64 gp]] w λe w'=>e=.returned (.bool (z2e n hd ft))/\Below w.heap.size w w':=by
 subst hvc
 cases h1:zM hd 0 n
 ·have HF:Hid (z2e n hd ft=false):=O (by rw [z2e,h1];rfl);go_enter func78,ntmps78;go_wp2_with (go_at_call 69;refine (zW _ _ _ _).mono ?_;rintro e w' ⟨rfl,rfl⟩)
  go_ret;exact ⟨zV HF.out.symm,ze bR _⟩
 ·have h1':0<=hd/\hd<=n:=of_decide_eq_true h1;obtain ⟨g1,g2⟩:=h1';have HF:Hid (z2e n hd ft=zM ft 0 (n - hd)):=O (by rw [z2e,h1];rfl);go_enter func78,ntmps78;go_wp2_with (go_at_call 69;refine (zW _ _ _ _).mono ?_;rintro e w' ⟨rfl,rfl⟩)
  go_ret;exact ⟨zV HF.out.symm,ze bR _⟩
theorem z3W (ac ar:Option Addr) (cc cr:Nat) (t:T) (w:World) {z:Nat} (hc:z09 w z (.slice ac t.cols.length cc) t.cols) (hr:z05 w z (.slice ar t.rows.length cr) t.rows) :
  Calls prog 43 #[.agg #[.slice ac t.cols.length cc,int i64 t.head,int i64 t.foot,.slice ar t.rows.length cr,int i64 t.gap]] w λe w'=>e=.returned (.bool (zF t))/\Below w.heap.size w w':=by
 have HC:=O hc;have HR:=O hr;clear hc hr;have K0:=O (ze (Below.refl w.heap.size w) (.cells #[.slice ac t.cols.length cc,int i64 t.head,int i64 t.foot,.slice ar t.rows.length cr,int i64 t.gap] 26))
 cases h0:zM t.rows.length 1 8
 ·have HF:Hid (zF t=false):=O (by simp [zF,h0]);go_enter func43,ntmps43;go_wp2_with (go_at_call 69;refine (zW _ _ _ _).mono ?_;rintro e w' ⟨rfl,rfl⟩)
  go_ret;exact ⟨zV HF.out.symm,ze bR _⟩
 cases h1:z2e t.rows.length t.head t.foot
 ·have HF:Hid (zF t=false):=O (by simp [zF,h0,h1]);have hN:0<=((t.rows.length:Nat):Int) - 1/\((t.rows.length:Nat):Int)<=8:=(by have:=of_decide_eq_true h0;omega);go_enter func43,ntmps43;go_wp2_with (go_at_call 69;refine (zW _ _ _ _).mono ?_;rintro e w' ⟨rfl,rfl⟩)
  refine (z5G _ ar t.rows.length cr t.head t.foot t.gap ac t.cols.length cc rfl (by omega) _).mono ?_;rw [h1];rintro e w1 ⟨rfl,hb1⟩;obtain ⟨m0,m1,m2,m3,m4⟩:=zL ((hb1.block w.heap.size (by simp)).trans (z2M _ _));have K1:=O (zi K0.out hb1);have L1:=O hb1;clear hb1;go_wp2_with (go_at_call 69;refine (zW _ _ _ _).mono ?_;rintro e w' ⟨rfl,rfl⟩)
  go_ret;exact ⟨zV HF.out.symm,K1.out⟩
 cases h2:zM t.gap 0 3
 ·have HF:Hid (zF t=false):=O (by simp [zF,h0,h1,h2]);have hN:0<=((t.rows.length:Nat):Int) - 1/\((t.rows.length:Nat):Int)<=8:=(by have:=of_decide_eq_true h0;omega);go_enter func43,ntmps43;go_wp2_with (go_at_call 69;refine (zW _ _ _ _).mono ?_;rintro e w' ⟨rfl,rfl⟩)
  refine (z5G _ ar t.rows.length cr t.head t.foot t.gap ac t.cols.length cc rfl (by omega) _).mono ?_;rw [h1];rintro e w1 ⟨rfl,hb1⟩;obtain ⟨m0,m1,m2,m3,m4⟩:=zL ((hb1.block w.heap.size (by simp)).trans (z2M _ _));have K1:=O (zi K0.out hb1);have L1:=O hb1;clear hb1;go_wp2_with (go_at_call 69;refine (zW _ _ _ _).mono ?_;rintro e w' ⟨rfl,rfl⟩)
  go_ret;exact ⟨zV HF.out.symm,K1.out⟩
 cases h3:z2k t.cols
 ·have HF:Hid (zF t=false):=O (by simp [zF,h0,h1,h2,h3]);have hN:0<=((t.rows.length:Nat):Int) - 1/\((t.rows.length:Nat):Int)<=8:=(by have:=of_decide_eq_true h0;omega);go_enter func43,ntmps43;go_wp2_with (go_at_call 69;refine (zW _ _ _ _).mono ?_;rintro e w' ⟨rfl,rfl⟩)
  refine (z5G _ ar t.rows.length cr t.head t.foot t.gap ac t.cols.length cc rfl (by omega) _).mono ?_;rw [h1];rintro e w1 ⟨rfl,hb1⟩;obtain ⟨m0,m1,m2,m3,m4⟩:=zL ((hb1.block w.heap.size (by simp)).trans (z2M _ _));have K1:=O (zi K0.out hb1);have L1:=O hb1;clear hb1;go_wp2_with (go_at_call 69;refine (zW _ _ _ _).mono ?_;rintro e w' ⟨rfl,rfl⟩)
  refine (z7R _ t.cols _ (HC.out.kept K1.out)).mono ?_;rw [h3];rintro e w2 ⟨rfl,hb2⟩;obtain ⟨n0,n1,n2,n3,n4⟩:=zL (((zi L1.out hb2).block w.heap.size (by simp)).trans (z2M _ _));have K2:=O (zi K1.out hb2);clear hb2;go_wp2;go_ret;exact ⟨zV HF.out.symm,K2.out⟩
 have HF:Hid (zF t=t.rows.all z2g):=O (by simp [zF,h0,h1,h2,h3]);have hN:0<=((t.rows.length:Nat):Int) - 1/\((t.rows.length:Nat):Int)<=8:=(by have:=of_decide_eq_true h0;omega);go_enter func43,ntmps43;go_wp2_with (go_at_call 69;refine (zW _ _ _ _).mono ?_;rintro e w' ⟨rfl,rfl⟩)
 refine (z5G _ ar t.rows.length cr t.head t.foot t.gap ac t.cols.length cc rfl (by omega) _).mono ?_;rw [h1];rintro e w1 ⟨rfl,hb1⟩;obtain ⟨m0,m1,m2,m3,m4⟩:=zL ((hb1.block w.heap.size (by simp)).trans (z2M _ _));have K1:=O (zi K0.out hb1);have L1:=O hb1;clear hb1;go_wp2_with (go_at_call 69;refine (zW _ _ _ _).mono ?_;rintro e w' ⟨rfl,rfl⟩)
 refine (z7R _ t.cols _ (HC.out.kept K1.out)).mono ?_;rw [h3];rintro e w2 ⟨rfl,hb2⟩;obtain ⟨n0,n1,n2,n3,n4⟩:=zL (((zi L1.out hb2).block w.heap.size (by simp)).trans (z2M _ _));have K2:=O (zi K1.out hb2);clear hb2;go_wp2_with fail
 refine (zfb _ t.rows _ (HR.out.kept K2.out)).mono ?_;rintro e w3 ⟨rfl,hb3⟩;have K3:=O (zi K2.out hb3);clear hb3;go_wp2;go_ret;exact ⟨zV HF.out.symm,K3.out⟩
theorem z93 (ac ar:Option Addr) (cc cr:Nat) (t:T) (q:Int) (w:World) {z:Nat} (hc:z09 w z (.slice ac t.cols.length cc) t.cols) (hr:z05 w z (.slice ar t.rows.length cr) t.rows) :
  Calls prog 74 #[.agg #[.slice ac t.cols.length cc,int i64 t.head,int i64 t.foot,.slice ar t.rows.length cr,int i64 t.gap],int i64 q] w λe w'=>e=.returned (int i64 (z0j t q))/\Below w.heap.size w w':=by
 have K0:=O (ze (Below.refl w.heap.size w) (.cells #[.slice ac t.cols.length cc,int i64 t.head,int i64 t.foot,.slice ar t.rows.length cr,int i64 t.gap] 26));have HC:=O (hc.kept K0.out);have HR:=O (hr.kept K0.out);clear hc hr
 cases hv:zF t
 ·have HF:Hid (z0j t q=-1):=O (by rw [z0j,if_neg (by rw [hv];simp)]);go_enter func74,ntmps74;go_wp2_with fail
  refine (z3W ac ar cc cr t _ HC.out HR.out).mono ?_;rw [hv];rintro e w1 ⟨rfl,hb1⟩;have K1:=O (zi K0.out hb1);clear hb1;go_wp2;go_ret;exact ⟨z6A HF.out.symm,K1.out⟩
 obtain ⟨⟨b1,b2⟩,⟨b3,b4⟩,b5,b6⟩:=z0R hv
 cases hi:zM q 0 (t.rows.length - 1)
 ·have HF:Hid (z0j t q=-1):=O (by rw [z0j,if_neg (by rw [hi];simp)]);go_enter func74,ntmps74;go_wp2_with fail
  refine (z3W ac ar cc cr t _ HC.out HR.out).mono ?_;rw [hv];rintro e w1 ⟨rfl,hb1⟩;obtain ⟨m0,m1,m2,m3,m4⟩:=zL ((hb1.block w.heap.size (by simp)).trans (z2M _ _));have K1:=O (zi K0.out hb1);clear hb1;go_wp2_with (go_at_call 69;refine (zW _ _ _ _).mono ?_;rintro e w' ⟨rfl,rfl⟩)
  go_ret;exact ⟨z6A HF.out.symm,K1.out⟩
 have HP:Hid (z0j t q=if q < t.head then 0 else if t.rows.length - t.foot<=q then 2 else 1):=O (by rw [z0j,if_pos ⟨hv,hi⟩]);by_cases h1:q < t.head
 ·have HF:Hid (z0j t q=0):=O (by rw [HP.out,if_pos h1]);go_enter func74,ntmps74;go_wp2_with fail
  refine (z3W ac ar cc cr t _ HC.out HR.out).mono ?_;rw [hv];rintro e w1 ⟨rfl,hb1⟩;obtain ⟨m0,m1,m2,m3,m4⟩:=zL ((hb1.block w.heap.size (by simp)).trans (z2M _ _));have K1:=O (zi K0.out hb1);clear hb1;go_wp2_with (go_at_call 69;refine (zW _ _ _ _).mono ?_;rintro e w' ⟨rfl,rfl⟩)
  go_ret;exact ⟨z6A HF.out.symm,K1.out⟩
 by_cases h2:(t.rows.length:Int) - t.foot<=q
 ·have HF:Hid (z0j t q=2):=O (by rw [HP.out,if_neg h1,if_pos h2]);go_enter func74,ntmps74;go_wp2_with fail
  refine (z3W ac ar cc cr t _ HC.out HR.out).mono ?_;rw [hv];rintro e w1 ⟨rfl,hb1⟩;obtain ⟨m0,m1,m2,m3,m4⟩:=zL ((hb1.block w.heap.size (by simp)).trans (z2M _ _));have K1:=O (zi K0.out hb1);clear hb1;go_wp2_with (go_at_call 69;refine (zW _ _ _ _).mono ?_;rintro e w' ⟨rfl,rfl⟩)
  go_ret;exact ⟨z6A HF.out.symm,K1.out⟩
 ·have HF:Hid (z0j t q=1):=O (by rw [HP.out,if_neg h1,if_neg h2]);go_enter func74,ntmps74;go_wp2_with fail
  refine (z3W ac ar cc cr t _ HC.out HR.out).mono ?_;rw [hv];rintro e w1 ⟨rfl,hb1⟩;obtain ⟨m0,m1,m2,m3,m4⟩:=zL ((hb1.block w.heap.size (by simp)).trans (z2M _ _));have K1:=O (zi K0.out hb1);clear hb1;go_wp2_with (go_at_call 69;refine (zW _ _ _ _).mono ?_;rintro e w' ⟨rfl,rfl⟩)
  go_ret;exact ⟨z6A HF.out.symm,K1.out⟩
theorem zie {R C:Int} {x:GC} (hf:z18 R C x=true) (hR:R<=8) (hC:C<=94) (w:World) (B:Nat) (L:List (Nat × Nat)) (hT:z0q w B L) :
  Calls prog 45 #[.map (some B),.agg #[int i64 x.row,int i64 x.col,int i64 x.rows,int i64 x.cols,int i64 x.ins]] w λe w'=>e=.returned (.bool (z6i L x.row.toNat x.col.toNat x.rows.toNat x.cols.toNat))/\Below w.heap.size w w':=by
 obtain ⟨e1,e2,e3,e4,h1,h2,h3,h4⟩:=z4d hf;have h:=zdS x.row.toNat x.col.toNat x.rows.toNat x.cols.toNat x.ins (by omega) (by omega) w B L hT;unfold gcV at h;rw [<-e1,<-e2,<-e3,<-e4] at h;exact h
theorem zkJ {R C:Int} {x:GC} (hf:z18 R C x=true) (hR:R<=8) (hC:C<=94) (w:World) (B:Nat) (L:List (Nat × Nat)) (hT:z0q w B L) (hL:L.length<=40 * 752) :
  Calls prog 46 #[.map (some B),.agg #[int i64 x.row,int i64 x.col,int i64 x.rows,int i64 x.cols,int i64 x.ins]] w λe w'=>(∃ v,e=.returned v)/\z0q w' B (L ++ (z4v x).map (·.1))/\w.grownBy w' (some B):=by
 have hl:=z9R hf hR hC;obtain ⟨e1,e2,e3,e4,h1,h2,h3,h4⟩:=z4d hf;have h:=zhY x.row.toNat x.col.toNat x.rows.toNat x.cols.toNat x.ins (by omega) (by omega) w B L hT (by show _+(z4v x).length < _;omega);unfold gcV at h;rw [<-e1,<-e2,<-e3,<-e4] at h;exact h
theorem zdW {t:T} (h:zF t=true) {r:Nat} (hr:r < t.rows.length):(z0j t r=0/\z03 t r=t.head)\/(z0j t r=1/\z03 t r=t.rows.length - t.foot)\/(z0j t r=2/\z03 t r=t.rows.length):=by
 have e:z0j t r=if (r:Int) < t.head then 0 else if (t.rows.length:Int) - t.foot<=r then 2 else 1:=by
  unfold z0j;rw [if_pos ⟨h,z4E (by omega) (by omega)⟩]
 unfold z03;rw [e]
 split
 ·exact .inl ⟨rfl,rfl⟩
 ·split
  ·exact .inr (.inr ⟨rfl,rfl⟩)
  ·exact .inr (.inl ⟨rfl,rfl⟩)
theorem zdX (ac ar:Option Addr) (cc cr:Nat) (t:T) (htk:zF t=true) (r:Nat) (hrl:r < t.rows.length) (w:World) {z:Nat} (hc:z09 w z (.slice ac t.cols.length cc) t.cols) (hr:z05 w z (.slice ar t.rows.length cr) t.rows) :
  Calls prog 44 #[.agg #[.slice ac t.cols.length cc,int i64 t.head,int i64 t.foot,.slice ar t.rows.length cr,int i64 t.gap],int i64 (r:Int)] w λe w'=>e=.returned (int i64 (z03 t r))/\Below w.heap.size w w':=by
 have hb:=z0R htk;have K0:=ze (Below.refl w.heap.size w) (.cells #[.slice ac t.cols.length cc,int i64 t.head,int i64 t.foot,.slice ar t.rows.length cr,int i64 t.gap] 26);have X0:=zj w (.cells #[.slice ac t.cols.length cc,int i64 t.head,int i64 t.foot,.slice ar t.rows.length cr,int i64 t.gap] 26);have KP:=O (z93 ac ar cc cr t (r:Int) _ (hc.kept K0) (hr.kept K0))
 rcases zdW htk hrl with ⟨h1,h2⟩ | ⟨h1,h2⟩ | ⟨h1,h2⟩
 all_goals
  rw [h1] at KP;have HE:=O h2;have HX:=O X0;have HK:=O K0;clear h1 h2 hc hr;go_enter func44,ntmps44;go_wp2_with fail
  refine KP.out.mono ?_;rintro e w1 ⟨rfl,hb1⟩;obtain ⟨⟨t0,t1,t2,t3,t4⟩,_⟩:=z2C (z0W HX.out hb1);have HB:=O (zi HK.out hb1);clear hb1 KP HX HK X0 K0;go_wp2;go_ret;exact ⟨z6Z HE.out.symm,HB.out⟩
theorem z1z.fits {n:Nat} {a:GC} (h:z1z n a):z18 n 94 a=true:=by
 unfold z1z at h;simp only [z18,zM,Bool.and_eq_true,decide_eq_true_eq];omega
theorem z8b {W:World} {mb b:Nat} {L:List (Nat × Nat)} {cur:Array Value} {e:TypeId} (h:z0q W mb L) (hb:W.heap[b]?=some (.cells cur e)):mb ≠ b:=λe1=>by
 obtain ⟨o,ho,hc⟩:=h.notCells;rw [e1,hb] at ho
 cases ho
 cases hc
theorem zez {W:World} {mb base:Nat} {L:List (Nat × Nat)} {e:TypeId} {sz:Nat} {v:Value} {m:Nat} {xs:List Value} (h:z0q W mb L) (ho:W.ownsRow base e sz v m xs):some mb ≠ v.ownBlock:=λe1=>by
 rcases ho.2 with ⟨rfl,_⟩ | ⟨g,cap,cur,rfl,_,hc,_⟩
 ·simp [Value.ownBlock] at e1
 ·simp [Value.ownBlock] at e1;exact z8b h hc e1
theorem SG.take {w W W':World} {gb mb:Nat} {ac ar:Option Addr} {cc cr:Nat} {t:T} {C:Int} {vg:Value} {gs:List GC} {L:List (Nat × Nat)} (h:SG w gb ac ar cc cr t C vg gs W) (hT:z0q W mb L) (hm:w.heap.size<=mb) (k:W.grownBy W' (some mb)):SG w gb ac ar cc cr t C vg gs W' :=
 ⟨h.bel.grown k h.bel.size (λj e=>by cases e;exact hm),z06 h.tbl k (λe=>by injection e with e;exact z8b hT h.tbl e.symm),z06 h.res k (λe=>by injection e with e;exact z8b hT h.res e.symm),z06 h.grd k (λe=>by injection e with e;exact z8b hT h.grd e.symm),
  z1Z (n:=w.heap.size+2) (b1:=none) (b2:=some mb) h.own (Off.grown k) lR (by cases vg.ownBlock <;> simp) (by
   cases hb:vg.ownBlock with
   | none=>exact .inl rfl
   | some b=>exact .inr (λe=>zez hT h.own (by rw [hb];exact e.symm)))⟩
end
end Go.Proofs.YtggmjiddadjilahGreat
