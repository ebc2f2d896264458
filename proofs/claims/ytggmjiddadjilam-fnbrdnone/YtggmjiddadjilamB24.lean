/-
  PROVED HERE: what the model's l3Of answers at a drawn table that is ok: its cells at their places; nothing that was in memory is turned. Also: 1 more texts of the same proof.
-/
import Derived.Test.YtggmjiddadjilamB23
set_option maxRecDepth 1000000
set_option maxHeartbeats 40000000
namespace Go.Proofs.Ytggmjiddadjilam
open Go.RowKit Go.BigFrame
theorem z6p (ac ar:Option Addr) (cc cr:Nat) (t:T) (hl:Low t) (w:World) {z:Nat} (hr:zD w z (.slice ar t.rows.length cr) t.rows) :
  Calls Try.prog 63 #[.agg #[.slice ac t.cols.length cc,.int .i64 t.head,.int .i64 t.foot,.slice ar t.rows.length cr,.int .i64 t.gap]] w fun e w'=>∃ vg,e=.returned (.agg #[.int .i64 (t.rows.length:Int),.int .i64 (zQ (max 1 (t.cols.length:Int)) (zR t)),vg])∧z20 w' w.heap.size vg (zR t)∧Below w.heap.size w w':=by
 have hmx:Try.prog.follows .mixedOrders=true:=(by kernel_rfl);have hn8:=hl.rows;have HL:=Hd hl;have HR:=Hd hr;clear hl hr;go_enter Try.func63,Try.ntmps63;go_wp2_with fail
 obtain ⟨W0,hW0⟩:∃ W0,(w.alloc (.cells #[.slice ac t.cols.length cc,.int .i64 t.head,.int .i64 t.foot,.slice ar t.rows.length cr,.int .i64 t.gap] 26)).alloc (.cells #[.int .i64 0,.int .i64 0,.slice none 0 0] 98)=W0:=⟨_,rfl⟩;have K0:Below w.heap.size w W0:=(by rw [← hW0];exact zb (zb (Below.refl _ _) _) _);have hz0:W0.heap.size=w.heap.size+2:=(by rw [← hW0];simp);have T0:W0.heap[w.heap.size]?=some (.cells #[.slice ac t.cols.length cc,.int .i64 t.head,.int .i64 t.foot,.slice ar t.rows.length cr,.int .i64 t.gap] 26):=(by rw [← hW0];exact (Below.heap_alloc _ _ _ (by simp)).trans (zf _ _))
 have X0:W0.heap[w.heap.size+1]?=some (.cells #[.int .i64 0,.int .i64 0,.slice none 0 0] 98):=by
  have:=zf (w.alloc (.cells #[.slice ac t.cols.length cc,.int .i64 t.head,.int .i64 t.foot,.slice ar t.rows.length cr,.int .i64 t.gap] 26)) (.cells #[.int .i64 0,.int .i64 0,.slice none 0 0] 98);rw [hW0] at this
  simpa using this
 rw [hW0];clear hW0;refine z0r (ofJ w.heap.size W0 ac ar cc cr t (fun v3 v8 v9 v10 v11 v12 v13 v14 v15=>⟨#[.agg #[.slice ac t.cols.length cc,.int .i64 t.head,.int .i64 t.foot,.slice ar t.rows.length cr,.int .i64 t.gap],.pointer (some ⟨w.heap.size,0,none⟩),.pointer (some ⟨w.heap.size+1,0,none⟩),v3,undef,undef,undef,undef,v8,v9,v10,v11,v12,v13,v14,v15,undef,undef,undef,undef,undef,undef,undef,undef,undef,undef,undef,undef,undef,undef,undef,undef,undef,undef,undef,undef,undef,undef,undef,undef,undef,undef,undef,undef,undef,undef,undef,undef,undef,undef,undef,undef,undef,undef,undef,undef,undef,undef,undef,undef,undef,undef,undef,undef,undef,undef,undef,undef,undef,undef,undef,undef,undef,undef,undef,undef,undef,undef,undef,undef,undef,undef,undef,undef,undef,undef,undef,undef,undef,undef,undef,undef,undef,undef],[]⟩)) (by kernel_rfl) (by kernel_rfl) ?hs ?hd ?h0
 case h0=>exact ⟨_,_,_,_,_,_,_,_,_,rfl,⟨(fun h=>by cases h),(fun h=>by cases h),(fun h=>by cases h),(fun h=>by cases h),(fun h=>by cases h),(fun h=>by cases h),(fun h=>by cases h),(fun h=>by cases h),(fun h=>by cases h),(fun h=>by cases h),(fun h=>by cases h),z1O (Below.refl _ _)⟩⟩
 case hs =>
  rename_i K1 hK1
  clear hK1;intro L a W i o hJ _ ho hLi haft K hK;obtain ⟨v3,v8,v9,v10,v11,v12,v13,v14,v15,ha,J⟩:=hJ;dsimp only at ha;subst ha
  have hi:i < 10:=by
   have:=(bL ho)
   simpa using this
  rcases (by omega:i=0∨i=1∨i=2∨i=3∨i=4∨i=5∨i=6∨i=7∨i=8∨i=9) with rfl | rfl | rfl | rfl | rfl | rfl | rfl | rfl | rfl | rfl
  all_goals
   simp only [List.getElem?_toArray,List.getElem?_cons_zero,List.getElem?_cons_succ,Option.some.injEq] at ho;subst ho;clear hi
  ·go_simp;exact hK _ _ ⟨_,_,_,_,_,_,_,_,_,rfl,⟨(fun _=>rfl),uq J.f1,uq J.f2,uq J.f3,uq J.f4,uq J.f5,uq J.f6,uq J.f7,(fun h=>by obtain ⟨g,e,h1,h2⟩:=J.f8 (un h);exact ⟨g,e,h1,fun h3=>h2 (by rwa [za rfl] at h3)⟩),uq J.f9,(fun h=>by rw [za rfl] at h ⊢;exact J.o9 h),J.bk⟩⟩
  ·obtain rfl:=J.f0 (Fa haft 0);have hc:=zU T0 J.bk;obtain ⟨⟨_,_,_,c3,_⟩,_⟩:=z0M hc;go_simp;exact hK _ _ ⟨_,_,_,_,_,_,_,_,_,rfl,⟨uq J.f0,(fun _=>rfl),uq J.f2,uq J.f3,uq J.f4,uq J.f5,uq J.f6,uq J.f7,(fun h=>by obtain ⟨g,e,h1,h2⟩:=J.f8 (un h);exact ⟨g,e,h1,fun h3=>h2 (by rwa [za rfl] at h3)⟩),uq J.f9,(fun h=>by rw [za rfl] at h ⊢;exact J.o9 h),J.bk⟩⟩
  ·obtain rfl:=J.f1 (Fa haft 1);go_simp;exact hK _ _ ⟨_,_,_,_,_,_,_,_,_,rfl,⟨uq J.f0,uq J.f1,(fun _=>rfl),uq J.f3,uq J.f4,uq J.f5,uq J.f6,uq J.f7,(fun h=>by obtain ⟨g,e,h1,h2⟩:=J.f8 (un h);exact ⟨g,e,h1,fun h3=>h2 (by rwa [za rfl] at h3)⟩),uq J.f9,(fun h=>by rw [za rfl] at h ⊢;exact J.o9 h),J.bk⟩⟩
  ·go_simp;exact hK _ _ ⟨_,_,_,_,_,_,_,_,_,rfl,⟨uq J.f0,uq J.f1,uq J.f2,(fun _=>rfl),uq J.f4,uq J.f5,uq J.f6,uq J.f7,(fun h=>by obtain ⟨g,e,h1,h2⟩:=J.f8 (un h);exact ⟨g,e,h1,fun h3=>h2 (by rwa [za rfl] at h3)⟩),uq J.f9,(fun h=>by rw [za rfl] at h ⊢;exact J.o9 h),J.bk⟩⟩
  ·obtain rfl:=J.f3 (Fa haft 3);have hc:=zU T0 J.bk;obtain ⟨⟨c0,_⟩,_⟩:=z0M hc;go_simp;exact hK _ _ ⟨_,_,_,_,_,_,_,_,_,rfl,⟨uq J.f0,uq J.f1,uq J.f2,uq J.f3,(fun _=>rfl),uq J.f5,uq J.f6,uq J.f7,(fun h=>by obtain ⟨g,e,h1,h2⟩:=J.f8 (un h);exact ⟨g,e,h1,fun h3=>h2 (by rwa [za rfl] at h3)⟩),uq J.f9,(fun h=>by rw [za rfl] at h ⊢;exact J.o9 h),J.bk⟩⟩
  ·obtain rfl:=J.f4 (Fa haft 4);go_simp;exact hK _ _ ⟨_,_,_,_,_,_,_,_,_,rfl,⟨uq J.f0,uq J.f1,uq J.f2,uq J.f3,uq J.f4,(fun _=>rfl),uq J.f6,uq J.f7,(fun h=>by obtain ⟨g,e,h1,h2⟩:=J.f8 (un h);exact ⟨g,e,h1,fun h3=>h2 (by rwa [za rfl] at h3)⟩),uq J.f9,(fun h=>by rw [za rfl] at h ⊢;exact J.o9 h),J.bk⟩⟩
  ·obtain rfl:=J.f5 (Fa haft 5);go_simp;go_wp2_with (go_at_call 85;refine (z3T _ _ _).mono ?_;rintro e W2 ⟨rfl,rfl⟩)
   exact ⟨_,_,_,_,_,_,_,_,_,rfl,⟨uq J.f0,uq J.f1,uq J.f2,uq J.f3,uq J.f4,uq J.f5,(fun _=>rfl),uq J.f7,(fun h=>by obtain ⟨g,e,h1,h2⟩:=J.f8 (un h);exact ⟨g,e,h1,fun h3=>h2 (by rwa [za rfl] at h3)⟩),uq J.f9,(fun h=>by rw [za rfl] at h ⊢;exact J.o9 h),J.bk⟩⟩
  ·obtain rfl:=J.f2 (Fa haft 2);obtain rfl:=J.f6 (Fa haft 6);go_simp;exact hK _ _ ⟨_,_,_,_,_,_,_,_,_,rfl,⟨uq J.f0,uq J.f1,uq J.f2,uq J.f3,uq J.f4,uq J.f5,uq J.f6,(fun _=>rfl),(fun h=>by obtain ⟨g,e,h1,h2⟩:=J.f8 (un h);exact ⟨g,e,h1,fun h3=>h2 (by rwa [za rfl] at h3)⟩),uq J.f9,(fun h=>by rw [za rfl] at h ⊢;exact J.o9 h),J.bk⟩⟩
  ·have hsz:=J.bk.size;go_simp;exact hK _ _ ⟨_,_,_,_,_,_,_,_,_,rfl,⟨uq J.f0,uq J.f1,uq J.f2,uq J.f3,uq J.f4,uq J.f5,uq J.f6,uq J.f7,(fun _=>⟨W.heap.size,rfl,hsz,fun _=>zf _ _⟩),(fun h=>by have:=J.o9 (un h);rw [hLi] at this;cases this),(fun _=>zH),zb J.bk _⟩⟩
  ·obtain ⟨g,rfl,hgn,hg⟩:=J.f8 (Fa haft 8);obtain rfl:=J.f7 (Fa haft 7);have hg2:=hg hLi;obtain ⟨⟨c0,c1,c2⟩,e0,e1,e2⟩:=z0U hg2;go_simp;have h3:(((W.setCell ⟨g,0,none⟩ (.int .i64 (t.rows.length:Int))).setCell ⟨g,1,none⟩ (.int .i64 (max 1 (t.cols.length:Int)))).setCell ⟨g,2,none⟩ (.slice none 0 0)).heap[g]?=some (.cells #[.int .i64 (t.rows.length:Int),.int .i64 (max 1 (t.cols.length:Int)),.slice none 0 0] 98):=(zL (zL (zL hg2 (p:=0) _) (p:=1) _) (p:=2) _).trans (by simp);exact hK _ _ ⟨_,_,_,_,_,_,_,_,_,rfl,⟨uq J.f0,uq J.f1,uq J.f2,uq J.f3,uq J.f4,uq J.f5,uq J.f6,uq J.f7,(fun h=>⟨g,rfl,hgn,fun h3=>by rw [zH] at h3;cases h3⟩),(fun _=>⟨g,rfl,hgn,h3⟩),(fun _=>by rw [za rfl];exact (Fa haft 8)),z4Z (z4Z (z4Z J.bk (p:=⟨g,0,none⟩) hgn _) (p:=⟨g,1,none⟩) hgn _) (p:=⟨g,2,none⟩) hgn _⟩⟩
 case hd =>
  rename_i K1 hK1
  intro L a W hJ hall;obtain ⟨v3,v8,v9,v10,v11,v12,v13,v14,v15,ha,J⟩:=hJ;dsimp only at ha;subst ha;obtain ⟨gb,rfl,hgb,hG⟩:=J.f9 (hall 9 (by simp));have hbk:=J.bk;clear J hall;have HS:Hid (SG w gb ac ar cc cr t (max 1 (t.cols.length:Int)) (.slice none 0 0) [] W):=⟨K0.trans (hbk.mono (by omega)),zU T0 hbk,zU X0 hbk,hG,⟨rfl,.inl ⟨rfl,rfl⟩⟩⟩;have hgz:w.heap.size+2≤gb:=(by omega);clear hbk hG T0 X0 K0;refine hK1 _ _ ?_;clear hK1;obtain ⟨⟨t0,t1,t2,t3,t4⟩,_⟩:=z0M HS.out.tbl;go_wp2_with fail
  clear t0 t1 t2 t3 t4;go_loopg [4,5,6,7] t.rows.length (fun kx s4 _ _ _ W=>∃ (r:Nat) (C:Int) (vg:Value),s4=.int .i64 r∧r≤t.rows.length∧t.rows.length - r≤kx∧Hid (C=zQ (max 1 (t.cols.length:Int)) (zv t r))∧Hid (SG w gb ac ar cc cr t C vg (zv t r) W))
  case atStart=>exact ⟨0,_,_,rfl,by omega,by omega,rfl,HS⟩
  case round =>
   obtain ⟨r,C,vg,rfl,hr,hkx,HCC,HS1⟩:=hrel;obtain ⟨⟨t0,t1,t2,t3,t4⟩,_⟩:=z0M HS1.out.tbl;clear HS;by_cases hrl:r < t.rows.length
   ·have hrl':(r:Int) < (t.rows.length:Int):=(by omega);obtain ⟨cs,ecs⟩:∃ cs,(t.rows.getD r dR).cells=cs:=⟨_,rfl⟩;have HE:=Hd ecs;have HP0:=Hd (z24 HL.out r hr);clear ecs;go_wp2_with fail
    clear t0 t1 t2 t3 t4;go_loopg [5,6,7] cs.length (fun kx s5 _ _ W=>∃ (i:Nat) (C:Int) (vg:Value),s5=.int .i64 i∧i≤cs.length∧cs.length - i≤kx∧Hid (C=zQ (max 1 (t.cols.length:Int)) (z0n (zt t r) r cs (zv t r) i))∧Hid (SG w gb ac ar cc cr t C vg (z0n (zt t r) r cs (zv t r) i) W))
    case atStart=>exact ⟨0,C,vg,rfl,by omega,by omega,HCC,HS1⟩
    case round =>
     obtain ⟨i,C2,vg2,rfl,hi,hkx2,HC2,HS2⟩:=hrel;obtain ⟨wp,hwp⟩:∃ wp,wp=wr:=⟨_,rfl⟩;subst hwp;obtain ⟨⟨t0,t1,t2,t3,t4⟩,_⟩:=z0M HS2.out.tbl;clear HS1 HCC;obtain ⟨g,off,cap',e',hc1,hc2,hbl,u,hu,hwh,hcs⟩:=At.get (HR.out.kept HS2.out.bel) hrl;simp only [Value.slice.injEq,true_and] at e';obtain ⟨rfl,rfl⟩:=e';unfold maxLen at hc2;rw [HE.out] at hcs;obtain ⟨ca,ccp,rfl,hcm⟩:=At.form hcs;unfold maxLen at hcm;by_cases hil:i < cs.length
     ·have hil':(i:Int) < (cs.length:Int):=(by omega);obtain ⟨g2,z2e,cap2,e2,hd1,hd2,hbl2,hx,hxs⟩:=At.get hcs hil;simp only [Value.slice.injEq,true_and] at e2;obtain ⟨rfl,rfl⟩:=e2;unfold maxLen at hd2;have hP:=z2o HL.out hrl HP0.out i (by rw [HE.out];exact hi);rw [HE.out] at hP;have hN:=hP.next HL.out hrl (by rw [HE.out];exact hil);rw [HE.out] at hN;have hxb:=HL.out.span _ (z0Y (d:=dR) hrl) (cs.getD i dC) (by rw [HE.out];exact z0Y hil);have heb:=z1Z HL.out hrl;obtain ⟨x,ex⟩:∃ x,cs.getD i dC=x:=⟨_,rfl⟩;rw [ex] at hx hxs hN hxb;obtain ⟨rr,err⟩:∃ rr,min x.r (zt t r - r)=rr:=⟨_,rfl⟩;have hrr:1≤rr∧rr≤3:=(by omega);obtain ⟨gs,egs⟩:∃ gs,z0n (zt t r) r cs (zv t r) i=gs:=⟨_,rfl⟩;rw [egs] at hN hP HC2 HS2;obtain ⟨⟨hF1,hF2,hF3,hF4⟩,hPn⟩:=hN;obtain ⟨F,eF⟩:∃ F,z1J gs (z1q r i (zt t r) x)=F:=⟨_,rfl⟩;rw [eF] at hF1 hF2 hF3
      have hcell:∀ k:Int,z07 (z1q r i (zt t r) x) k=⟨r,k,rr,x.c,i⟩:=fun k=>by
       simp only [z07,z1q,err]
      have hpl:z0F gs r i (zt t r) x=⟨r,F,rr,x.c,i⟩:=by
       unfold z0F;rw [eF,hcell]
      have hgsS:∀ a ∈ gs,z0h t.rows.length a:=fun a ha=>(hP.stands a ha).1
      have hnext:z0n (zt t r) r cs (zv t r) (i+1)=gs ++ [⟨r,F,rr,x.c,i⟩]:=by
       show z0n (zt t r) r cs (zv t r) i ++ [z0F (z0n (zt t r) r cs (zv t r) i) r i (zt t r) (cs.getD i dC)]=_;rw [egs,ex,hpl]
      simp only [hcell] at hF2 hF3 hF4;have HNX:=Hd hnext;have HF2:=Hd hF2;have HF3:=Hd hF3;have HF4:=Hd hF4;have HGS:=Hd hgsS
      have hgl:gs.length≤100:=by
       have h1:=z30 HL.out r;have h2:=z2B (zt t r) r cs (zv t r) i;rw [egs] at h2
       have h3:cs.length≤5:=by
        obtain ⟨k,hk⟩:=HL.out.few;have h4:=hk r;rw [HE.out] at h4
        split at h4 <;> omega
       omega
      obtain ⟨va,vcp,rfl,_⟩:=zu HS2.out.own;obtain ⟨v0,v1,v2,v3,v4,v5,v6,v7,v8',v9',v10'⟩:=hx;have HER:=Hd err;clear hcs hwh hP hPn ex hxs hF2 hF3 hF4 hcell hpl hnext egs eF err hgsS;have KE:=Hd (fun W:World=>z60 ac (some ⟨g,off,none⟩) cc cr t ⟨hn8,HL.out.foot.1,by have:=HL.out.foot;have:=HL.out.head;omega⟩ r W);go_wp2_with fail
      obtain ⟨W1,hW1⟩:∃ W1,(wp.alloc (.cells #[.string x.s,.int .i64 x.c,.int .i64 x.r,.int .i64 x.a1,.int .i64 x.b1,.int .i64 x.a2,.int .i64 x.b2,.int .i64 x.a3,.int .i64 x.b3,.int .i64 x.a4,.int .i64 x.b4] 35)).alloc (.cells #[.int .i64 (r:Int),.int .i64 0,.int .i64 x.r,.int .i64 x.c,.int .i64 (i:Int)] 115)=W1:=⟨_,rfl⟩;rw [hW1];have KW:Below wp.heap.size wp W1:=(by rw [← hW1];exact zb (zb (Below.refl _ _) _) _);have hzW:W1.heap.size=wp.heap.size+2:=(by rw [← hW1];simp)
      have HCB:Hid (W1.heap[wp.heap.size+1]?=some (.cells #[.int .i64 (r:Int),.int .i64 0,.int .i64 x.r,.int .i64 x.c,.int .i64 (i:Int)] 115)):=Hd (by
       have:=zf (wp.alloc (.cells #[.string x.s,.int .i64 x.c,.int .i64 x.r,.int .i64 x.a1,.int .i64 x.b1,.int .i64 x.a2,.int .i64 x.b2,.int .i64 x.a3,.int .i64 x.b3,.int .i64 x.a4,.int .i64 x.b4] 35)) (.cells #[.int .i64 (r:Int),.int .i64 0,.int .i64 x.r,.int .i64 x.c,.int .i64 (i:Int)] 115);rw [hW1] at this
       simpa using this)
      have hwz:w.heap.size+2≤wp.heap.size:=(by have:=(bL HS2.out.res);omega);have hgbl:gb < wp.heap.size:=(bL HS2.out.grd);have hvb:∀ b,(Value.slice va gs.length vcp).ownBlock=some b→b < wp.heap.size:=fun b hb=>(z0d HS2.out.own hb).2;have HS3:=Hd (HS2.out.kept KW);clear hW1 KW t0 t1 t2 t3 t4 v0 v1 v2 v3 v4 v5 v6 v7 v8' v9' v10' hu HS2;have hne:=z1X W1;have hlw:w.heap.size < W1.heap.size:=(by omega);have q0:=zj (a:=⟨w.heap.size,0,none⟩) (v:=.slice ac t.cols.length cc) hlw (zc HS3.out.tbl);have q1:=zj (a:=⟨w.heap.size,1,none⟩) (v:=.int .i64 t.head) hlw (zc HS3.out.tbl);have q2:=zj (a:=⟨w.heap.size,2,none⟩) (v:=.int .i64 t.foot) hlw (zc HS3.out.tbl);have q3:=zj (a:=⟨w.heap.size,3,none⟩) (v:=.slice (some ⟨g,off,none⟩) t.rows.length cr) hlw (zc HS3.out.tbl);have q4:=zj (a:=⟨w.heap.size,4,none⟩) (v:=.int .i64 t.gap) hlw (zc HS3.out.tbl);have q5:=zj (a:=⟨wp.heap.size+1,2,none⟩) (v:=.int .i64 x.r) (by show wp.heap.size+1 < _;omega) (zc HCB.out);refine z0G hmx (by kernel_rfl) ?_;repeat (go_big_quiet_step (first | (go_at_call 86;refine z2K (KE.out _))))
      refine wpQuiet_nil ?_;intro W2 hw';obtain ⟨⟨Wx,hW2⟩,hw''⟩:=hw';subst hw'';have HS4:=Hd (HS3.out.kept hW2);have HCB2:=Hd (zU HCB.out hW2);clear q0 q1 q2 q3 q4 q5 hne HS3 HCB hW2
      go_upto_if 57 with fail
      go_cut [7] (fun s W=>s=.pointer (some ⟨wp.heap.size+1,0,none⟩)∧Hid (SG w gb ac (some ⟨g,off,none⟩) cc cr t C2 (.slice va gs.length vcp) gs W)∧Hid (W.heap[wp.heap.size+1]?=some (.cells #[.int .i64 (r:Int),.int .i64 0,.int .i64 rr,.int .i64 x.c,.int .i64 (i:Int)] 115)))
      case first =>
       obtain ⟨⟨t0,t1,t2,t3,t4⟩,_⟩:=z0M HS4.out.tbl;by_cases hgt:zt t r < (r:Int)+x.r
       ·have hrv:zt t r - r=rr:=(by have:=HER.out;omega);go_wp2_with fail
        refine (KE.out _).mono ?_;rintro e w5 ⟨rfl,hb5⟩;have hCB5:=zU HCB2.out hb5;have c2:w5.cell? ⟨wp.heap.size+1,2,none⟩=some (.int .i64 x.r):=zc hCB5;have f2:w5.frozen? ⟨wp.heap.size+1,2,none⟩=false:=zn hCB5;have HS5:Hid (SG w gb ac (some ⟨g,off,none⟩) cc cr t C2 (.slice va gs.length vcp) gs (w5.setCell ⟨wp.heap.size+1,2,none⟩ (.int .i64 rr))):=(HS4.out.kept hb5).bkc ((Bk.refl (wp.heap.size+1) w5).set (p:=⟨wp.heap.size+1,2,none⟩) (.inl rfl) _) (by omega) (by omega) (fun b hb=>by have:=hvb b hb;omega);have HCB5:Hid ((w5.setCell ⟨wp.heap.size+1,2,none⟩ (.int .i64 rr)).heap[wp.heap.size+1]?=some (.cells #[.int .i64 (r:Int),.int .i64 0,.int .i64 rr,.int .i64 x.c,.int .i64 (i:Int)] 115)):=zL hCB5 _;clear hCB5 hb5 t0 t1 t2 t3 t4;go_wp2_with fail
        go_meet
        case rel=>exact ⟨rfl,HS5,HCB5⟩
       ·have hrv:x.r=rr:=(by have:=HER.out;omega);go_wp2_with fail
        go_meet
        case rel=>exact ⟨rfl,HS4,by rw [← hrv];exact HCB2⟩
      case rest =>
       obtain ⟨rfl,HS5,HC5⟩:=hcut;clear HS4 HCB2;have KF:Hid (∀ (k:Nat) (W:World),k≤F→z03 W (w.heap.size+2) (.slice va gs.length vcp) gs→Calls Try.prog 87 #[.slice va gs.length vcp,.agg #[.int .i64 (r:Int),.int .i64 (k:Int),.int .i64 rr,.int .i64 x.c,.int .i64 (i:Int)]] W fun e w'=>e=.returned (.bool (z0k gs ⟨r,k,rr,x.c,i⟩))∧Below W.heap.size W w'):=fun k W hk hG=>z5k va vcp gs (fun a ha=>(HGS.out a ha).sm hn8) ⟨r,k,rr,x.c,i⟩ ((HF4.out k (by omega)).sm hn8) W hG;have HAT:Hid (∀ W,z20 W (w.heap.size+2) (.slice va gs.length vcp) gs→z03 W (w.heap.size+2) (.slice va gs.length vcp) gs):=fun W h=>h.at (fun a ha=>(HGS.out a ha).gok hn8);go_wp2_with fail
       go_loopg [64] (F+1) (fun kx _ W=>∃ k:Nat,k≤F∧F+1 - k≤kx∧Hid (SG w gb ac (some ⟨g,off,none⟩) cc cr t C2 (.slice va gs.length vcp) gs W)∧Hid (W.heap[wp.heap.size+1]?=some (.cells #[.int .i64 (r:Int),.int .i64 (k:Int),.int .i64 rr,.int .i64 x.c,.int .i64 (i:Int)] 115)))
       case atStart=>exact ⟨0,by omega,by omega,HS5,HC5⟩
       case round =>
        obtain ⟨k,hkF,hkx3,HS6,HC6⟩:=hrel;clear HS5 HC5;obtain ⟨⟨b0,b1,b2,b3,b4⟩,fb0,fb1,fb2,fb3,fb4⟩:=z0M HC6.out;obtain ⟨⟨a0,a1,a2⟩,fa0,fa1,fa2⟩:=z0U HS6.out.grd;have hk90:(k:Int) < 90:=(by omega);by_cases hkF2:k < F
        ·have hfr:=HF3.out k hkF2;have KF2:=Hd (KF.out k wr hkF (HAT.out _ HS6.out.own));rw [hfr] at KF2;clear hfr;go_wp2_with fail
         refine KF2.out.mono ?_;rintro e w7 ⟨rfl,hb7⟩;have hC7:=zU HC6.out hb7;have c1:w7.cell? ⟨wp.heap.size+1,1,none⟩=some (.int .i64 (k:Int)):=zc hC7;have f1:w7.frozen? ⟨wp.heap.size+1,1,none⟩=false:=zn hC7;have HS7:Hid (SG w gb ac (some ⟨g,off,none⟩) cc cr t C2 (.slice va gs.length vcp) gs (w7.setCell ⟨wp.heap.size+1,1,none⟩ (.int .i64 ((k:Int)+1)))):=(HS6.out.kept hb7).bkc ((Bk.refl (wp.heap.size+1) w7).set (p:=⟨wp.heap.size+1,1,none⟩) (.inl rfl) _) (by omega) (by omega) (fun b hb=>by have:=hvb b hb;omega);have HC7:Hid ((w7.setCell ⟨wp.heap.size+1,1,none⟩ (.int .i64 ((k:Int)+1))).heap[wp.heap.size+1]?=some (.cells #[.int .i64 (r:Int),.int .i64 ((k:Int)+1),.int .i64 rr,.int .i64 x.c,.int .i64 (i:Int)] 115)):=zL hC7 _;clear hC7 hb7 HS6 HC6 KF2 b0 b1 b2 b3 b4 a0 a1 a2 fb0 fb1 fb2 fb3 fb4 fa0 fa1 fa2;go_wp2;go_roundg (gk - 1)
         case measure=>omega
         case rel=>exact ⟨k+1,by omega,by omega,HS7,HC7⟩
        ·obtain rfl:k=F:=by omega
         have hfr:=HF2.out;have KF2:=Hd (KF.out k wr hkF (HAT.out _ HS6.out.own));rw [hfr] at KF2;clear hfr;obtain ⟨i0,hi0,hz0',hz1',hz2'⟩:=info_parts z5D;go_wp2_with fail
         refine KF2.out.mono ?_;rintro e w7 ⟨rfl,hb7⟩;have hS7:=HS6.out.kept hb7;have hC7:=zU HC6.out hb7;obtain ⟨⟨d0,d1,d2,d3,d4⟩,_⟩:=z0M hC7;obtain ⟨⟨e0,e1,e2⟩,_⟩:=z0U hS7.grd;have hla:=zb (Below.refl w7.heap.size w7) (.cells #[.int .i64 (r:Int),.int .i64 (k:Int),.int .i64 rr,.int .i64 x.c,.int .i64 (i:Int)] 115);have hSA:=hS7.kept hla;have hCA:=zU hC7 hla;have hXN:=zf w7 (.cells #[.int .i64 (r:Int),.int .i64 (k:Int),.int .i64 rr,.int .i64 x.c,.int .i64 (i:Int)] 115);have hz7:w.heap.size+2≤w7.heap.size:=(by have:=(bL hS7.res);omega);clear b0 b1 b2 b3 b4 a0 a1 a2 fb0 fb1 fb2 fb3 fb4 fa0 fa1 fa2 KF2;go_wp2_with (at_builtin;refine wpList_append_own _ rfl _ _ 96 rfl (w.heap.size+2) 115 i0 _ 5 40 Try.underlying96 hi0 hz0' hz1' hz2' rfl (by decide) _ _ _ rfl hSA.own ⟨w7.heap.size,0,none⟩ 1 1 (z2c ⟨r,k,rr,x.c,i⟩) rfl rfl (z02 hXN) (by simp [z2c,Value.oneCell']) (by unfold maxLen;omega) (by omega) (by simp;omega) ?_)
         intro v' w8 hown' hg' _;have hUb:∀ b,(Value.slice va gs.length vcp).ownBlock=some b→w.heap.size+2≤b:=fun b hb=>(z0d hSA.own hb).1;have hB8:Below w.heap.size w w8:=hSA.bel.grown hg' hSA.bel.size (fun j e=>by have:=hUb j e;omega);have hT8:=zB hSA.tbl hg' (zG (zh hSA.own hSA.tbl (by decide)));have hR8:=zB hSA.res hg' (zG (zh hSA.own hSA.res (by decide)));have hG8:=zB hSA.grd hg' (zG (zh hSA.own hSA.grd (by decide)));have hC8:=zB hCA hg' (z4W (fun b hb=>by have:=hvb b hb;omega));obtain ⟨ve,vq,rfl,_⟩:=zu hown'
         have hO8:w8.ownsRow (w.heap.size+2) 115 5 (.slice ve (gs.length+1) vq) (gs ++ [(⟨r,k,rr,x.c,i⟩:GC)]).length ((gs ++ [(⟨r,k,rr,x.c,i⟩:GC)]).flatMap z2c):=by
          rw [List.length_append,List.flatMap_append]
          simpa using hown'
         have hgc:gb ≠ wp.heap.size+1:=(by omega);have g2:w8.cell? ⟨gb,2,none⟩=some (.slice va gs.length vcp):=zc hG8;have gf2:w8.frozen? ⟨gb,2,none⟩=false:=zn hG8;have hG9:(w8.setCell ⟨gb,2,none⟩ (.slice ve (gs.length+1) vq)).heap[gb]?=some (.cells #[.int .i64 (t.rows.length:Int),.int .i64 C2,(.slice ve (gs.length+1) vq)] 98):=zL hG8 _;have hC9:(w8.setCell ⟨gb,2,none⟩ (.slice ve (gs.length+1) vq)).heap[wp.heap.size+1]?=some (.cells #[.int .i64 (r:Int),.int .i64 (k:Int),.int .i64 rr,.int .i64 x.c,.int .i64 (i:Int)] 115):=(Below.heap_setCell _ _ _ _ (fun e=>hgc e.symm)).trans hC8;have hS9:SG w gb ac (some ⟨g,off,none⟩) cc cr t C2 (.slice ve (gs.length+1) vq) (gs ++ [(⟨r,k,rr,x.c,i⟩:GC)]) (w8.setCell ⟨gb,2,none⟩ (.slice ve (gs.length+1) vq)):=⟨hB8.setCell (by show _≤gb;omega) _,(Below.heap_setCell _ _ _ _ (by show _ ≠ gb;omega)).trans hT8,(Below.heap_setCell _ _ _ _ (by show _ ≠ gb;omega)).trans hR8,hG9,zV hO8 hG8 (by decide) _⟩;have HS9:=Hd hS9;have HC9:=Hd hC9;clear hown' hg' hUb hB8 hT8 hR8 hG8 hC8 hO8 hSA hCA hXN hla hS7 hC7 d0 d1 d2 d3 d4 e0 e1 e2 HS6 HC6 hb7 hG9 hC9 hS9;go_upto_region 15 with fail
         clear g2 gf2;generalize w8.setCell ⟨gb,2,none⟩ (.slice ve (gs.length+1) vq)=w9 at HS9 HC9 ⊢;obtain ⟨⟨j0,j1,j2,j3,j4⟩,_⟩:=z0M HC9.out;obtain ⟨⟨l0,l1,l2⟩,m0,m1,m2⟩:=z0U HS9.out.grd;have HSZ:Hid (SG w gb ac (some ⟨g,off,none⟩) cc cr t (max C2 ((k:Int)+x.c)) (.slice ve (gs.length+1) vq) (gs ++ [(⟨r,k,rr,x.c,i⟩:GC)]) (w9.setCell ⟨gb,1,none⟩ (.int .i64 (max C2 ((k:Int)+x.c))))):=⟨HS9.out.bel.setCell (by show _≤gb;omega) _,(Below.heap_setCell _ _ _ _ (by show _ ≠ gb;omega)).trans HS9.out.tbl,(Below.heap_setCell _ _ _ _ (by show _ ≠ gb;omega)).trans HS9.out.res,zL HS9.out.grd _,zV HS9.out.own HS9.out.grd (by decide) _⟩;have HCZ:Hid (max C2 ((k:Int)+x.c)=zQ (max 1 (t.cols.length:Int)) (gs ++ [(⟨r,k,rr,x.c,i⟩:GC)])):=Hd (by rw [z1K,← HC2.out]);rw [← HNX.out] at HSZ HCZ;generalize hmx2:max C2 ((k:Int)+x.c)=CN at HSZ HCZ;have KM:=Hd (fun W=>z3T C2 ((k:Int)+x.c) W);rw [hmx2] at KM;clear hmx2 HS9 HC9;go_wp2_with fail
         refine (KM.out _).mono ?_;rintro e w10 ⟨rfl,rfl⟩;go_wp2;go_roundg (cs.length - (i+1))
         case measure=>omega
         case rel=>exact ⟨i+1,CN,(.slice ve (gs.length+1) vq),by go_num,by omega,by omega,HCZ,HSZ⟩
     ·obtain rfl:i=cs.length:=by omega
      have HSE:Hid (SG w gb ac (some ⟨g,off,none⟩) cc cr t C2 vg2 (zv t (r+1)) wp):=by
       show SG _ _ _ _ _ _ _ _ _ (z0n (zt t r) r (t.rows.getD r dR).cells (zv t r) (t.rows.getD r dR).cells.length) _;rw [HE.out];exact HS2.out
      have HCE:Hid (C2=zQ (max 1 (t.cols.length:Int)) (zv t (r+1))):=by
       show C2=zQ _ (z0n (zt t r) r (t.rows.getD r dR).cells (zv t r) (t.rows.getD r dR).cells.length);rw [HE.out];exact HC2.out
      clear HS2 HC2 hcs hwh;go_wp2;go_roundg (t.rows.length - (r+1))
      case measure=>omega
      case rel=>exact ⟨r+1,C2,vg2,by go_num,by omega,by omega,HCE,HSE⟩
   ·obtain rfl:r=t.rows.length:=by omega
    obtain ⟨va,vq,rfl,_⟩:=zu HS1.out.own;obtain ⟨⟨l0,l1,l2⟩,_⟩:=z0U HS1.out.grd;obtain ⟨⟨x0,x1,x2⟩,y0,y1,y2⟩:=z0U HS1.out.res;have h1:=zL (p:=0) HS1.out.res (.int .i64 (t.rows.length:Int));have h2:=zL (p:=1) h1 (.int .i64 C);have o1:=zV (p:=0) HS1.out.own HS1.out.res (by decide) (.int .i64 (t.rows.length:Int));have o2:=zV (p:=1) o1 h1 (by decide) (.int .i64 C);have o3:=zV (p:=2) o2 h2 (by decide) (.slice va (zv t t.rows.length).length vq);have HO:=Hd (z0P o3 (by omega:w.heap.size≤w.heap.size+2));have HB:=Hd (((HS1.out.bel.setCell (p:=⟨w.heap.size+1,0,none⟩) (by show _≤w.heap.size+1;omega) (.int .i64 (t.rows.length:Int))).setCell (p:=⟨w.heap.size+1,1,none⟩) (by show _≤w.heap.size+1;omega) (.int .i64 C)).setCell (p:=⟨w.heap.size+1,2,none⟩) (by show _≤w.heap.size+1;omega) (.slice va (zv t t.rows.length).length vq));clear h1 h2 o1 o2 o3 HS1;go_wp2;exact bodyPost_ret (v:=.agg #[.int .i64 (t.rows.length:Int),.int .i64 C,(.slice va (zv t t.rows.length).length vq)]) (by simp [results,Try.results63,go_sem,x0,x1,x2]) rfl ⟨_,by rw [HCC.out];rfl,HO.out,HB.out⟩
theorem z6W (ac ar:Option Addr) (cc cr:Nat) (t:T) (hD:z0o t) (hok:zI t=true) (w:World) {z:Nat} (hr:zD w z (.slice ar t.rows.length cr) t.rows) :
  Calls Try.prog 63 #[.agg #[.slice ac t.cols.length cc,.int .i64 t.head,.int .i64 t.foot,.slice ar t.rows.length cr,.int .i64 t.gap]] w fun e w'=>∃ ag cg,e=.returned (.agg #[.int .i64 (gOf t).rows,.int .i64 (gOf t).cols,.slice ag (gOf t).cells.length cg])∧z20 w' w.heap.size (.slice ag (gOf t).cells.length cg) (gOf t).cells∧Below w.heap.size w w':=by
 refine (z6p ac ar cc cr t (z2C hok hD) w hr).mono ?_;rintro e w' ⟨vg,rfl,hO,hb⟩;rw [z4i hok];obtain ⟨ag,cg,rfl⟩:=z3N hO;exact ⟨ag,cg,rfl,hO,hb⟩
structure BaK (w:World) (lb:Nat) (ac ar ag:Option Addr) (cc cr cg:Nat) (t:T) (R C:Nat) (gs:List GC) (W:World):Prop where
 below:Below w.heap.size w W
 x:W.heap[w.heap.size]?=some (.cells #[.slice ac t.cols.length cc,.int .i64 t.head,.int .i64 t.foot,.slice ar t.rows.length cr,.int .i64 t.gap] 26)
 l:W.heap[lb]?=some (.cells #[.int .i64 (R:Int),.int .i64 (C:Int),.slice ag gs.length cg] 98)
 g:z20 W w.heap.size (.slice ag gs.length cg) gs
theorem BaK.kept {w:World} {lb:Nat} {ac ar ag:Option Addr} {cc cr cg:Nat} {t:T} {R C:Nat} {gs:List GC} {W W':World} (h:BaK w lb ac ar ag cc cr cg t R C gs W) (k:Below W.heap.size W W'):BaK w lb ac ar ag cc cr cg t R C gs W' :=
 ⟨ze h.below k,(k.block _ (bL h.x)).trans h.x,(k.block _ (bL h.l)).trans h.l,z0m h.g k⟩
theorem BaK.grown {w:World} {lb:Nat} {ac ar ag:Option Addr} {cc cr cg:Nat} {t:T} {R C:Nat} {gs:List GC} {W W':World} {U:Value} {m:Nat} {ys:List Value} (h:BaK w lb ac ar ag cc cr cg t R C gs W) (hU:W.ownsRow (w.heap.size+1) 62 3 U m ys) (k:W.grownBy W' U.ownBlock):BaK w lb ac ar ag cc cr cg t R C gs W' :=
 ⟨h.below.grown k h.below.size (fun b hb=>by have:=(World.ownsRow.lt hU b hb).1;omega),zB h.x k (zG (zh hU h.x (by decide))),zB h.l k (zG (zh hU h.l (by decide))),
  ⟨h.g.1,h.g.2.elim Or.inl (fun ⟨g,cap,cur,hv,hg,hc,r⟩=>Or.inr ⟨g,cap,cur,hv,hg,zB hc k (zG (zh hU hc (by decide))),r⟩)⟩⟩
theorem z5l (ac ar:Option Addr) (cc cr:Nat) (t:T) (hD:z0o t) (w:World) {z:Nat} (hC:zY w z (.slice ac t.cols.length cc) t.cols) (hW:zD w z (.slice ar t.rows.length cr) t.rows) :
  Calls Try.prog 29 #[.agg #[.slice ac t.cols.length cc,.int .i64 t.head,.int .i64 t.foot,.slice ar t.rows.length cr,.int .i64 t.gap]] w fun e w'=>∃ v,e=.returned v∧z0V w' w.heap.size v (z0y t)∧Below w.heap.size w w':=by
 obtain ⟨i0,hi0,hz0,hz1,hz2⟩:=info_parts z3n;obtain ⟨R,C,hgr,hgc,hR8,hC88⟩:=z32 hD;have KO:=Hd (fun W (h:TA W z ac ar cc cr t)=>z3K ac ar cc cr t W h.1 h.2);have HLy:=Hd (fun (hok:zI t=true) W (h:TA W z ac ar cc cr t)=>z6W ac ar cc cr t hD hok W h.2);have HT:=Hd (⟨hC,hW⟩:TA w z ac ar cc cr t);have hgk:=z4S hD;have KA:=Hd (fun ag cg (r c:Int) (hr:-1000≤r∧r≤1000) (hc:-1000≤c∧c≤1000) W (h1:Below w.heap.size w W) (h2:z20 W w.heap.size (.slice ag (gOf t).cells.length cg) (gOf t).cells)=>z4t ac ar ag cc cr cg t hD r c hr hc W (TA.kept HT.out h1).2 (h2.at hgk));have KB:=Hd (fun ag cg (r c:Int) (hr:-1000≤r∧r≤1000) (hc:-1000≤c∧c≤1000) W (h1:Below w.heap.size w W) (h2:z20 W w.heap.size (.slice ag (gOf t).cells.length cg) (gOf t).cells)=>z4u ac ar ag cc cr cg t hD r c hr hc W (TA.kept HT.out h1).2 (h2.at hgk))
 have HAll:Hid (z0y t=zT (zl t) C (R+1) ++ zT (zm t) (C+1) R):=by
  show _=_;rw [z0y,hgr,hgc,Int.toNat_natCast,Int.toNat_natCast]
 have HNo:Hid (zI t=false→z0y t=[]):=fun h=>by
  unfold z0y;rw [z4j h];rfl
 rw [hgr,hgc] at HLy KA KB;clear hgk;generalize (gOf t).cells=gs at HLy KA KB;generalize zl t=fa at KA HAll;generalize zm t=fb at KB HAll
 have HPl:Hid ((zT fa C (R+1)).length≤2000):=by
  show _≤_;rw [z1w];have:=Nat.mul_le_mul (show R+1≤9 by omega) (show C≤88 by omega);omega
 generalize zI t=bt at KO HLy HNo;have HK0:=Hd (zb (zb (Below.refl w.heap.size w) (.cells #[.slice ac t.cols.length cc,.int .i64 t.head,.int .i64 t.foot,.slice ar t.rows.length cr,.int .i64 t.gap] 26)) (.cells #[] 62));have HX0:Hid (((w.alloc (.cells #[.slice ac t.cols.length cc,.int .i64 t.head,.int .i64 t.foot,.slice ar t.rows.length cr,.int .i64 t.gap] 26)).alloc (.cells #[] 62)).heap[w.heap.size]?=some (.cells #[.slice ac t.cols.length cc,.int .i64 t.head,.int .i64 t.foot,.slice ar t.rows.length cr,.int .i64 t.gap] 26)):=(Below.heap_alloc _ _ _ (by simp)).trans (zf w _);have HT0:Hid (TA ((w.alloc (.cells #[.slice ac t.cols.length cc,.int .i64 t.head,.int .i64 t.foot,.slice ar t.rows.length cr,.int .i64 t.gap] 26)).alloc (.cells #[] 62)) z ac ar cc cr t):=TA.kept ⟨hC,hW⟩ HK0.out;have hz0':((w.alloc (.cells #[.slice ac t.cols.length cc,.int .i64 t.head,.int .i64 t.foot,.slice ar t.rows.length cr,.int .i64 t.gap] 26)).alloc (.cells #[] 62)).heap.size=w.heap.size+2:=(by simp)
 have HE0:Hid (((w.alloc (.cells #[.slice ac t.cols.length cc,.int .i64 t.head,.int .i64 t.foot,.slice ar t.rows.length cr,.int .i64 t.gap] 26)).alloc (.cells #[] 62)).heap[w.heap.size+1]?=some (.cells #[] 62)):=by
  have:=zf (w.alloc (.cells #[.slice ac t.cols.length cc,.int .i64 t.head,.int .i64 t.foot,.slice ar t.rows.length cr,.int .i64 t.gap] 26)) (.cells #[] 62);rw [show (w.alloc (.cells #[.slice ac t.cols.length cc,.int .i64 t.head,.int .i64 t.foot,.slice ar t.rows.length cr,.int .i64 t.gap] 26)).heap.size=w.heap.size+1 by simp] at this;exact this
 clear hC hW hD hgr hgc HT;go_enter Try.func29,Try.ntmps29;go_upto_region 2 with fail
 generalize (w.alloc (.cells #[.slice ac t.cols.length cc,.int .i64 t.head,.int .i64 t.foot,.slice ar t.rows.length cr,.int .i64 t.gap] 26)).alloc (.cells #[] 62)=W0 at HK0 HX0 HT0 hz0' HE0 ⊢;obtain ⟨b0,b1,b2,b3,b4⟩:=z0z HX0.out;go_wp2_with fail
 refine (KO.out _ HT0.out).mono ?_;rintro e W1 ⟨rfl,hb1⟩
 cases bt with
 | false =>
  have HK1:=Hd (ze HK0.out hb1);clear b0 b1 b2 b3 b4;go_wp2;go_ret;exact ⟨_,rfl,by rw [HNo.out (by first | rfl | trivial)];exact ⟨_,0,rfl,Nat.le_refl _,Nat.zero_le _,fun i hi=>absurd hi (Nat.not_lt_zero _)⟩,HK1.out⟩
 | true =>
 have HX1:=Hd ((hb1.block w.heap.size (by omega)).trans HX0.out);have HE1:=Hd ((hb1.block (w.heap.size+1) (by omega)).trans HE0.out);have HK1:=Hd (ze HK0.out hb1);have HT1:=Hd (TA.kept HT0.out hb1);have hz1':=hb1.size;clear b0 b1 b2 b3 b4 hb1 HX0 HE0 HK0 HT0 KO HNo;obtain ⟨b0,b1,b2,b3,b4⟩:=z0z HX1.out;go_wp2_with fail
 refine (HLy.out (by first | rfl | trivial) _ HT1.out).mono ?_;rintro e W2 ⟨ag,cg,rfl,hG,hb2⟩;have hz2':=hb2.size;have HKL:=zb (Below.refl W2.heap.size W2) (.cells #[.int .i64 (R:Int),.int .i64 (C:Int),.slice ag gs.length cg] 98);have HE:Hid ((W2.alloc (.cells #[.int .i64 (R:Int),.int .i64 (C:Int),.slice ag gs.length cg] 98)).heap[w.heap.size+1]?=some (.cells #[] 62)):=(HKL.block (w.heap.size+1) (by omega)).trans ((hb2.block (w.heap.size+1) (by omega)).trans HE1.out);have HB0:Hid (BaK w W2.heap.size ac ar ag cc cr cg t R C gs (W2.alloc (.cells #[.int .i64 (R:Int),.int .i64 (C:Int),.slice ag gs.length cg] 98))):=⟨zb (ze HK1.out hb2) _,(HKL.block w.heap.size (by omega)).trans ((hb2.block w.heap.size (by omega)).trans HX1.out),zf W2 _,z0m (z0P hG (by omega)) HKL⟩;have KA:=Hd (fun W (h:BaK w W2.heap.size ac ar ag cc cr cg t R C gs W) (r c:Int) (hr:-1000≤r∧r≤1000) (hc:-1000≤c∧c≤1000)=>KA.out ag cg r c hr hc W h.below h.g);have KB:=Hd (fun W (h:BaK w W2.heap.size ac ar ag cc cr cg t R C gs W) (r c:Int) (hr:-1000≤r∧r≤1000) (hc:-1000≤c∧c≤1000)=>KB.out ag cg r c hr hc W h.below h.g);clear HLy hb2 hG HKL b0 b1 b2 b3 b4 HX1 HE1 HK1 HT1;go_upto_region 5 with fail
 generalize W2.alloc (.cells #[.int .i64 (R:Int),.int .i64 (C:Int),.slice ag gs.length cg] 98)=W3 at HB0 HE ⊢;generalize W2.heap.size=lb at HB0 hz2' KA KB ⊢;have HO0:Hid (z0f W3 (w.heap.size+1) (.slice (some ⟨w.heap.size+1,0,none⟩) 0 0) (zT fa C 0)):=⟨by simp [zT],.inr ⟨w.heap.size+1,0,#[],rfl,Nat.le_refl _,HE.out,Nat.le_refl _,Nat.zero_le _,rfl,rfl⟩⟩;go_wp2_with fail
 go_loopw [3,5] (fun o i W=>∃ r:Nat,i=.int .i64 (r:Int)∧r≤R+1∧Hid (z0f W (w.heap.size+1) o (zT fa C r))∧Hid (BaK w lb ac ar ag cc cr cg t R C gs W)) (fun _ i _=>R+1 - (intOf i).toNat)
 case atStart=>exact ⟨0,rfl,Nat.zero_le _,HO0,HB0⟩
 case round =>
  obtain ⟨r,rfl,hr,HO,HBr⟩:=hrel;obtain ⟨b0,b1,b2,b3,b4⟩:=z0z HBr.out.x;obtain ⟨⟨g0,g1,g2⟩,_⟩:=z0U HBr.out.l;by_cases hrR:r < R+1
  case neg =>
   have hrn:r=R+1:=(by omega);have hrf:¬ (r:Int)≤(R:Int):=(by omega)
   have HOp:Hid (z0f wr (w.heap.size+1) u3 (zT fa C (R+1))):=by
    rw [hrn] at HO;exact HO
   have HBp:=HBr;generalize zT fa C (R+1)=P at HOp HAll HPl;have hPl:P.length≤2000:=HPl.out
   replace HOp:Hid (z0f wr (w.heap.size+1) u3 (P ++ zT fb (C+1) 0)):=by
    rw [show zT fb (C+1) 0=[] from rfl,List.append_nil];exact HOp
   clear HO;go_wp2_with fail
   clear b0 b1 b2 b3 b4 g0 g1 g2;go_loopw [3,7] (fun o i W=>∃ r:Nat,i=.int .i64 (r:Int)∧r≤R∧Hid (z0f W (w.heap.size+1) o (P ++ zT fb (C+1) r))∧Hid (BaK w lb ac ar ag cc cr cg t R C gs W)) (fun _ i _=>R - (intOf i).toNat)
   case atStart=>exact ⟨0,rfl,Nat.zero_le _,HOp,HBp⟩
   case round =>
    obtain ⟨r,rfl,hr,HO,HBr⟩:=hrel;obtain ⟨b0,b1,b2,b3,b4⟩:=z0z HBr.out.x;obtain ⟨⟨g0,g1,g2⟩,_⟩:=z0U HBr.out.l;by_cases hrR:r < R
    case neg =>
     have hrn:r=R:=(by omega);have hrf:¬ (r:Int) < (R:Int):=(by omega)
     have HF:Hid (z0V wr w.heap.size u3 (z0y t)):=by
      rw [hrn] at HO;show z0V _ _ _ _;rw [HAll.out];exact (z14 HO.out).base (by omega)
     have HK:=Hd HBr.out.below;clear b0 b1 b2 b3 b4 g1 g2;go_wp2;go_ret;exact ⟨_,rfl,HF.out,HK.out⟩
    case pos =>
    have hrt:(r:Int) < (R:Int):=(by omega);go_wp2_with fail
    go_loopw [3,8] (fun o i W=>∃ c:Nat,i=.int .i64 (c:Int)∧c≤C+1∧Hid (z0f W (w.heap.size+1) o (P ++ upF fb (C+1) r c))∧Hid (BaK w lb ac ar ag cc cr cg t R C gs W)) (fun _ i _=>C+1 - (intOf i).toNat)
    case atStart=>exact ⟨0,rfl,Nat.zero_le _,by rw [z2t];exact HO,HBr⟩
    case round =>
     obtain ⟨c,rfl,hc,HOc,HBc⟩:=hrel;clear b0 b1 b2 b3 b4 g0 g1 g2;obtain ⟨b0,b1,b2,b3,b4⟩:=z0z HBc.out.x;obtain ⟨⟨g0,g1,g2⟩,_⟩:=z0U HBc.out.l;by_cases hcC:c < C+1
     case neg =>
      have hcn:c=C+1:=(by omega);have hcf:¬ (c:Int)≤(C:Int):=(by omega)
      have HOd:Hid (z0f wr (w.heap.size+1) u3 (P ++ zT fb (C+1) (r+1))):=by
       rw [hcn,z2u] at HOc;exact HOc
      go_wp2;go_roundw
      case rel=>exact ⟨r+1,by go_num,by omega,HOd,HBc⟩
      case measure=>simp [intOf];omega
     case pos =>
      have hct:(c:Int)≤(C:Int):=(by omega)
      have hlen:(P ++ upF fb (C+1) r c).length≤5000:=by
       rw [List.length_append,z2M];have:=Nat.mul_le_mul (show r≤9 by omega) (show C+1≤89 by omega);omega
      go_wp2_with fail
      refine (KB.out _ HBc.out (r:Int) (c:Int) (by omega) (by omega)).mono ?_;rintro e W5 ⟨rfl,hb5⟩;have hO5:=z0m HOc.out hb5;have HB5:=Hd (HBc.out.kept hb5);have hz5:=HB5.out.below.size;have hz6:w.heap.size < W5.heap.size:=(bL HB5.out.x);have HN:=Hd (z2v fb (C+1) r c);generalize fb (r:Int) (c:Int)=x at HN ⊢;generalize hU:P ++ upF fb (C+1) r c=U at hO5 hlen ⊢;have HU:=Hd hU;clear hU b0 b1 b2 b3 b4 g0 g1 g2 HOc;go_wp2_with (at_builtin;refine wpList_append_own _ rfl _ _ 59 rfl (w.heap.size+1) 62 i0 _ 3 24 Try.underlying59 hi0 hz0 hz1 hz2 rfl (by decide) _ _ _ rfl (hO5.alloc _) ⟨W5.heap.size,0,none⟩ 1 1 [.int .i64 x.s,.int .i64 x.w,.int .i64 x.c] rfl rfl ?c1 ?c2 ?c3 ?c4 ?c5 ?_)
      case c1=>exact z02 (zf W5 _)
      case c2=>simp [Value.oneCell']
      case c3=>unfold maxLen;omega
      case c4=>omega
      case c5=>simp;omega
      intro v9 W9 hown9 hg9 _;have HO9:Hid (z0f W9 (w.heap.size+1) v9 (U ++ [x])):=z27 hown9;have HB9:=Hd ((HB5.out.kept (zb (Below.refl _ _) (.cells #[.int .i64 x.s,.int .i64 x.w,.int .i64 x.c] 62))).grown (hO5.alloc _) hg9);obtain ⟨a9,c9,rfl,_⟩:=zu HO9.out;clear hown9 hg9 hO5 hb5 HB5
      have HO10:Hid (z0f W9 (w.heap.size+1) (.slice a9 (U ++ [x]).length c9) (P ++ upF fb (C+1) r (c+1))):=by
       show z0f _ _ _ _;rw [HN.out,← List.append_assoc,HU.out];exact HO9.out
      go_wp2;go_roundw
      case rel=>exact ⟨c+1,by go_num,by omega,HO10,HB9⟩
      case measure=>simp [intOf];omega
  case pos =>
  have hrt:(r:Int)≤(R:Int):=(by omega);go_wp2_with fail
  go_loopw [3,6] (fun o i W=>∃ c:Nat,i=.int .i64 (c:Int)∧c≤C∧Hid (z0f W (w.heap.size+1) o (upF fa C r c))∧Hid (BaK w lb ac ar ag cc cr cg t R C gs W)) (fun _ i _=>C - (intOf i).toNat)
  case atStart=>exact ⟨0,rfl,Nat.zero_le _,by rw [z2t];exact HO,HBr⟩
  case round =>
   obtain ⟨c,rfl,hc,HOc,HBc⟩:=hrel;clear b0 b1 b2 b3 b4 g0 g1 g2;obtain ⟨b0,b1,b2,b3,b4⟩:=z0z HBc.out.x;obtain ⟨⟨g0,g1,g2⟩,_⟩:=z0U HBc.out.l;by_cases hcC:c < C
   case neg =>
    have hcn:c=C:=(by omega);have hcf:¬ (c:Int) < (C:Int):=(by omega)
    have HOd:Hid (z0f wr (w.heap.size+1) u3 (zT fa C (r+1))):=by
     rw [hcn,z2u] at HOc;exact HOc
    go_wp2;go_roundw
    case rel=>exact ⟨r+1,by go_num,by omega,HOd,HBc⟩
    case measure=>simp [intOf];omega
   case pos =>
    have hct:(c:Int) < (C:Int):=(by omega)
    have hlen:(upF fa C r c).length≤5000:=by
     rw [z2M];have:=Nat.mul_le_mul (show r≤9 by omega) (show C≤89 by omega);omega
    go_wp2_with fail
    refine (KA.out _ HBc.out (r:Int) (c:Int) (by omega) (by omega)).mono ?_;rintro e W5 ⟨rfl,hb5⟩;have hO5:=z0m HOc.out hb5;have HB5:=Hd (HBc.out.kept hb5);have hz5:=HB5.out.below.size;have hz6:w.heap.size < W5.heap.size:=(bL HB5.out.x);have HN:=Hd (z2v fa C r c);generalize fa (r:Int) (c:Int)=x at HN ⊢;generalize hU:upF fa C r c=U at hO5 hlen ⊢;have HU:=Hd hU;clear hU b0 b1 b2 b3 b4 g0 g1 g2 HOc;go_wp2_with (at_builtin;refine wpList_append_own _ rfl _ _ 59 rfl (w.heap.size+1) 62 i0 _ 3 24 Try.underlying59 hi0 hz0 hz1 hz2 rfl (by decide) _ _ _ rfl (hO5.alloc _) ⟨W5.heap.size,0,none⟩ 1 1 [.int .i64 x.s,.int .i64 x.w,.int .i64 x.c] rfl rfl ?c1 ?c2 ?c3 ?c4 ?c5 ?_)
    case c1=>exact z02 (zf W5 _)
    case c2=>simp [Value.oneCell']
    case c3=>unfold maxLen;omega
    case c4=>omega
    case c5=>simp;omega
    intro v9 W9 hown9 hg9 _;have HO9:Hid (z0f W9 (w.heap.size+1) v9 (U ++ [x])):=z27 hown9;have HB9:=Hd ((HB5.out.kept (zb (Below.refl _ _) (.cells #[.int .i64 x.s,.int .i64 x.w,.int .i64 x.c] 62))).grown (hO5.alloc _) hg9);obtain ⟨a9,c9,rfl,_⟩:=zu HO9.out;clear hown9 hg9 hO5 hb5 HB5
    have HO10:Hid (z0f W9 (w.heap.size+1) (.slice a9 (U ++ [x]).length c9) (upF fa C r (c+1))):=by
     show z0f _ _ _ _;rw [HN.out,HU.out];exact HO9.out
    go_wp2;go_roundw
    case rel=>exact ⟨c+1,by go_num,by omega,HO10,HB9⟩
    case measure=>simp [intOf];omega
end Go.Proofs.Ytggmjiddadjilam
