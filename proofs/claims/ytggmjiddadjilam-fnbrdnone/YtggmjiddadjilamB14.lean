/-
  PROVED HERE: what the program's GrdOf answers at a drawn table: its cells at their places, or nothing where it is not ok; nothing that was in memory is turned.
-/
import Derived.Test.YtggmjiddadjilamB13
set_option maxRecDepth 1000000
set_option maxHeartbeats 40000000
namespace Go.Proofs.Ytggmjiddadjilam
open Go.RowKit
theorem z5Z (ac ar:Option Addr) (cc cr:Nat) (t:T) (hD:z0o t) (w:World) {z:Nat} (hc:zY w z (.slice ac t.cols.length cc) t.cols) (hr:zD w z (.slice ar t.rows.length cr) t.rows) :
  Calls Try.prog 79 #[.agg #[.slice ac t.cols.length cc,.int .i64 t.head,.int .i64 t.foot,.slice ar t.rows.length cr,.int .i64 t.gap]] w fun e w'=>∃ vg,e=.returned (.agg #[.int .i64 (gOf t).rows,.int .i64 (gOf t).cols,vg])∧z20 w' w.heap.size vg (gOf t).cells∧Below w.heap.size w w':=by
 have hmm:=@run_makeMap Try.prog;obtain ⟨W0,hW0⟩:∃ W0,(w.alloc (.cells #[.slice ac t.cols.length cc,.int .i64 t.head,.int .i64 t.foot,.slice ar t.rows.length cr,.int .i64 t.gap] 26)).alloc (.cells #[.int .i64 0,.int .i64 0,.slice none 0 0] 98)=W0:=⟨_,rfl⟩;have K0:Below w.heap.size w W0:=(by rw [← hW0];exact zb (zb (Below.refl _ _) _) _);have hz0:W0.heap.size=w.heap.size+2:=(by rw [← hW0];simp);have T0:W0.heap[w.heap.size]?=some (.cells #[.slice ac t.cols.length cc,.int .i64 t.head,.int .i64 t.foot,.slice ar t.rows.length cr,.int .i64 t.gap] 26):=(by rw [← hW0];exact (Below.heap_alloc _ _ _ (by simp)).trans (zf _ _))
 have X0:W0.heap[w.heap.size+1]?=some (.cells #[.int .i64 0,.int .i64 0,.slice none 0 0] 98):=by
  have:=zf (w.alloc (.cells #[.slice ac t.cols.length cc,.int .i64 t.head,.int .i64 t.foot,.slice ar t.rows.length cr,.int .i64 t.gap] 26)) (.cells #[.int .i64 0,.int .i64 0,.slice none 0 0] 98);rw [hW0] at this
  simpa using this
 have KO:=Hd (z1x ac ar cc cr t W0 (hc.kept K0) (hr.kept K0));have HC:=Hd hc;have HR:=Hd hr;obtain ⟨⟨t0,t1,t2,t3,t4⟩,_⟩:=z0M T0;clear hc hr
 cases htk:zI t with
 | false =>
  rw [htk] at KO;have hg:gOf t=⟨0,0,[]⟩:=(by unfold gOf;rw [if_neg (by rw [htk];simp)]);have HG:=Hd hg;clear htk hg hD;go_enter Try.func79,Try.ntmps79;go_wp2_with fail
  refine KO.out.mono ?_;rintro e w1 ⟨rfl,hb1⟩;have X1:=zU X0 hb1;have K1:=ze K0 hb1;obtain ⟨⟨x0,x1,x2⟩,y0,y1,y2⟩:=z0U X1;have HB:=Hd (((K1.setCell (p:=⟨w.heap.size+1,0,none⟩) (by show _≤w.heap.size+1;omega) (.int .i64 0)).setCell (p:=⟨w.heap.size+1,1,none⟩) (by show _≤w.heap.size+1;omega) (.int .i64 0)).setCell (p:=⟨w.heap.size+1,2,none⟩) (by show _≤w.heap.size+1;omega) (.slice none 0 0));clear hb1 K1 X1 KO hW0 t0 t1 t2 t3 t4 hmm;go_wp2;exact bodyPost_ret (v:=.agg #[.int .i64 0,.int .i64 0,.slice none 0 0]) (by simp [results,Try.results79,go_sem,x0,x1,x2]) rfl ⟨.slice none 0 0,by rw [HG.out],by rw [HG.out];exact ⟨rfl,.inl ⟨rfl,rfl⟩⟩,HB.out⟩
 | true =>
  rw [htk] at KO;have hg:gOf t=⟨t.rows.length,zQ (max 1 (t.cols.length:Int)) (zR t),zR t⟩:=(by unfold gOf;rw [if_pos htk]);have HG:=Hd hg;have HL:=Hd (z2C htk hD);have hn8:=HL.out.rows;have hdc:=hD.cols;have HTK:=Hd htk;clear htk hg hD;go_enter Try.func79,Try.ntmps79;go_wp2_with fail
  refine KO.out.mono ?_;rintro e w1 ⟨rfl,hb1⟩;have X1:=Hd (zU X0 hb1);have T1:=Hd (zU T0 hb1);have K1:=Hd (ze K0 hb1);have hz1:w.heap.size+2≤w1.heap.size:=(by have:=hb1.size;omega);obtain ⟨⟨s0,s1,s2,s3,s4⟩,_⟩:=z0M T1.out;clear KO hW0 t0 t1 t2 t3 t4 hb1 K0 X0 T0;go_upto_region 3 with fail
  go_cut [3] (fun s W=>s=.pointer (some ⟨w1.heap.size,0,none⟩)∧W=w1.alloc (.cells #[.int .i64 (t.rows.length:Int),.int .i64 (max 1 (t.cols.length:Int)),.slice none 0 0] 98))
  case first =>
   by_cases hm1:(1:Int) < (t.cols.length:Int)
   ·have hv:Hid (max 1 (t.cols.length:Int)=t.cols.length):=Hd (by omega);go_wp2_with fail
    go_meet
    case rel=>exact ⟨rfl,by rw [hv.out]⟩
   ·have hv:Hid (max 1 (t.cols.length:Int)=1):=Hd (by omega);go_wp2_with fail
    go_meet
    case rel=>exact ⟨rfl,by rw [hv.out]⟩
  case rest =>
   obtain ⟨rfl,rfl⟩:=hcut;have K2:=zb (zb (Below.refl w1.heap.size w1) (.cells #[.int .i64 (t.rows.length:Int),.int .i64 (max 1 (t.cols.length:Int)),.slice none 0 0] 98)) (.map #[] 0);have HS:Hid (SG w w1.heap.size ac ar cc cr t (max 1 (t.cols.length:Int)) (.slice none 0 0) [] ((w1.alloc (.cells #[.int .i64 (t.rows.length:Int),.int .i64 (max 1 (t.cols.length:Int)),.slice none 0 0] 98)).alloc (.map #[] 0))):=⟨K1.out.trans (K2.mono (by omega)),zU T1.out K2,zU X1.out K2,(Below.heap_alloc _ _ _ (by simp)).trans (zf _ _),⟨rfl,.inl ⟨rfl,rfl⟩⟩⟩
   have HM:Hid (zA ((w1.alloc (.cells #[.int .i64 (t.rows.length:Int),.int .i64 (max 1 (t.cols.length:Int)),.slice none 0 0] 98)).alloc (.map #[] 0)) (w1.heap.size+1) (zM [])):=Hd (by
    have:=zA.new (w1.alloc (.cells #[.int .i64 (t.rows.length:Int),.int .i64 (max 1 (t.cols.length:Int)),.slice none 0 0] 98))
    simpa [zM] using this)
   have hq1:w.heap.size ≠ w1.heap.size:=(by omega);have hq2:w.heap.size ≠ w1.heap.size+1:=(by omega);clear K2;obtain ⟨⟨q0,q1,q2,q3,q4⟩,_⟩:=z0M HS.out.tbl;go_wp2_with fail
   clear q0 q1 q2 q3 q4;obtain ⟨gb,hgb⟩:∃ gb,w1.heap.size=gb:=⟨_,rfl⟩;generalize (w1.alloc (.cells #[.int .i64 (t.rows.length:Int),.int .i64 (max 1 (t.cols.length:Int)),.slice none 0 0] 98)).alloc (.map #[] 0)=Wm at HS HM ⊢;clear s0 s1 s2 s3 s4 X1 T1 hq1 hq2;rw [hgb] at HS HM ⊢;have hgz:w.heap.size+2≤gb:=(by omega);clear hgb;go_loopg [26,5,6,7,8,9] t.rows.length (fun kx s26 _ _ _ _ _ W=>∃ (r:Nat) (C:Int) (vg:Value),s26=.int .i64 r∧r≤t.rows.length∧t.rows.length - r≤kx∧Hid (C=zQ (max 1 (t.cols.length:Int)) (zv t r))∧Hid (SG w gb ac ar cc cr t C vg (zv t r) W)∧Hid (zA W (gb+1) (zM (zv t r))))
   case atStart=>exact ⟨0,_,_,rfl,by omega,by omega,rfl,HS,HM⟩
   case round =>
    obtain ⟨r,C,vg,rfl,hr,hkx,HCC,HS1,HM1⟩:=hrel;obtain ⟨⟨t0,t1,t2,t3,t4⟩,_⟩:=z0M HS1.out.tbl;clear HS HM;by_cases hrl:r < t.rows.length
    ·have hrl':(r:Int) < (t.rows.length:Int):=(by omega);obtain ⟨cs,ecs⟩:∃ cs,(t.rows.getD r dR).cells=cs:=⟨_,rfl⟩;obtain ⟨g,off,cap',e',hc1,hc2,hbl,u,hu,hwh,hcs⟩:=At.get HR.out hrl
     have hea:ar=some ⟨g,off,none⟩:=by
      simp only [Value.slice.injEq] at e';exact e'.1
     subst hea
     have hcc2:t.rows.length≤cr∧cr≤9223372036854775807:=by
      simp only [Value.slice.injEq,true_and] at e';rw [e'];unfold maxLen at hc2;omega
     rw [ecs] at hcs;obtain ⟨ca,ccp,rfl,hcm⟩:=At.form hcs;unfold maxLen at hcm hc2;have HCS:=Hd hcs;have HE:=Hd ecs;have HP0:=Hd (z24 HL.out r hr);have KE:=Hd (z4H ac (some ⟨g,off,none⟩) cc cr t HTK.out r hrl wr (HC.out.kept HS1.out.bel) (HR.out.kept HS1.out.bel));have heb:=z1Z HL.out hrl;clear ecs hcs hwh e';go_wp2_with fail
     refine KE.out.mono ?_;rintro e w2 ⟨rfl,hb2⟩;have HS2:=Hd (HS1.out.kept hb2);have HM2:Hid (zA w2 (gb+1) (zM (zv t r))):=HM1.out.of_block (hb2.block _ HM1.out.lt);have hu2:w2.cell? ⟨g,off+r * 2,none⟩=some (.slice ca cs.length ccp):=(HS2.out.bel.cell (p:=⟨g,off+r * 2,none⟩) hbl).trans hu;clear t0 t1 t2 t3 t4 HS1 HM1 hb2 KE;obtain ⟨⟨t0,t1,t2,t3,t4⟩,_⟩:=z0M HS2.out.tbl;go_wp2_with fail
     clear t0 t1 t2 t3 t4 hu2;go_loopg [41,7,8,9] cs.length (fun kx s41 _ _ _ W=>∃ (i:Nat) (C:Int) (vg:Value),s41=.int .i64 i∧i≤cs.length∧cs.length - i≤kx∧Hid (C=zQ (max 1 (t.cols.length:Int)) (z0n (zt t r) r cs (zv t r) i))∧Hid (SG w gb ac (some ⟨g,off,none⟩) cc cr t C vg (z0n (zt t r) r cs (zv t r) i) W)∧Hid (zA W (gb+1) (zM (z0n (zt t r) r cs (zv t r) i))))
     case atStart=>exact ⟨0,C,vg,rfl,by omega,by omega,HCC,HS2,HM2⟩
     case round =>
      obtain ⟨i,C2,vg2,rfl,hi,hkx2,HC2,HS3,HM3⟩:=hrel;obtain ⟨wp,hwp⟩:∃ wp,wp=wr:=⟨_,rfl⟩;subst hwp;clear HS2 HM2 HCC;by_cases hil:i < cs.length
      ·have hil':(i:Int) < (cs.length:Int):=(by omega);obtain ⟨g2,z2e,cap2,e2,hd1,hd2,hbl2,hx,hxs⟩:=At.get (HCS.out.kept HS3.out.bel) hil;simp only [Value.slice.injEq,true_and] at e2;obtain ⟨rfl,rfl⟩:=e2;unfold maxLen at hd2;have hP:=z2o HL.out hrl HP0.out i (by rw [HE.out];exact hi);rw [HE.out] at hP;have hN:=hP.next HL.out hrl (by rw [HE.out];exact hil);rw [HE.out] at hN;have hxb:=HL.out.span _ (z0Y (d:=dR) hrl) (cs.getD i dC) (by rw [HE.out];exact z0Y hil);obtain ⟨x,ex⟩:∃ x,cs.getD i dC=x:=⟨_,rfl⟩;rw [ex] at hx hxs hN hxb;obtain ⟨rr,err⟩:∃ rr,min x.r (zt t r - r)=rr:=⟨_,rfl⟩;have hrr:1≤rr∧rr≤3:=(by omega);obtain ⟨gs,egs⟩:∃ gs,z0n (zt t r) r cs (zv t r) i=gs:=⟨_,rfl⟩;rw [egs] at hN hP HC2 HS3 HM3;obtain ⟨⟨hF1,hF2,hF3,hF4⟩,hPn⟩:=hN;obtain ⟨F,eF⟩:∃ F,z1J gs (z1q r i (zt t r) x)=F:=⟨_,rfl⟩;rw [eF] at hF1 hF2 hF3
       have hcell:∀ k:Int,z07 (z1q r i (zt t r) x) k=⟨r,k,rr,x.c,i⟩:=fun k=>by
        simp only [z07,z1q,err]
       have hpl:z0F gs r i (zt t r) x=⟨r,F,rr,x.c,i⟩:=by
        unfold z0F;rw [eF,hcell]
       have hgsS:∀ a ∈ gs,z0h t.rows.length a:=fun a ha=>(hP.stands a ha).1
       have hnext:z0n (zt t r) r cs (zv t r) (i+1)=gs ++ [⟨r,F,rr,x.c,i⟩]:=by
        show z0n (zt t r) r cs (zv t r) i ++ [z0F (z0n (zt t r) r cs (zv t r) i) r i (zt t r) (cs.getD i dC)]=_;rw [egs,ex,hpl]
       simp only [hcell] at hF2 hF3 hF4;have HNX:=Hd hnext;have HF2:=Hd hF2;have HF3:=Hd hF3;have HF4:=Hd hF4;have HGS:=Hd hgsS
       have hgl:gs.length≤40:=by
        have h1:=z30 HL.out r;have h2:=z2B (zt t r) r cs (zv t r) i;rw [egs] at h2
        have h3:cs.length≤5:=by
         obtain ⟨k,hk⟩:=HL.out.few;have h4:=hk r;rw [HE.out] at h4
         split at h4 <;> omega
        omega
       obtain ⟨va,vcp,rfl,_⟩:=zu HS3.out.own;obtain ⟨v0,v1,v2,v3,v4,v5,v6,v7,v8,v9,v10⟩:=hx;have HER:=Hd err;clear hP hPn ex hxs hF2 hF3 hF4 hcell hpl hnext egs eF err hgsS;have hwz:w.heap.size+2≤wp.heap.size:=(by have:=(bL HS3.out.res);omega);have hgbl:gb < wp.heap.size:=(bL HS3.out.grd);have hmbl:=HM3.out.lt;have hvb:∀ b,(Value.slice va gs.length vcp).ownBlock=some b→b < wp.heap.size:=fun b hb=>(z0d HS3.out.own hb).2;go_upto_region 12 with fail
       go_cut [9] (fun s W=>s=.pointer (some ⟨wp.heap.size+1,0,none⟩)∧W=(wp.alloc (.cells #[.string x.s,.int .i64 x.c,.int .i64 x.r,.int .i64 x.a1,.int .i64 x.b1,.int .i64 x.a2,.int .i64 x.b2,.int .i64 x.a3,.int .i64 x.b3,.int .i64 x.a4,.int .i64 x.b4] 35)).alloc (.cells #[.int .i64 (r:Int),.int .i64 0,.int .i64 rr,.int .i64 x.c,.int .i64 (i:Int)] 115))
       case first =>
        by_cases hmn:x.r < zt t r - r
        ·have hv:Hid (rr=x.r):=Hd (by have:=HER.out;omega);go_wp2_with fail
         go_meet
         case rel=>exact ⟨rfl,by rw [hv.out]⟩
        ·have hv:Hid (rr=zt t r - r∧(zt t r - r=x.r→rr=x.r)):=Hd (by have:=HER.out;omega);go_wp2_with fail
         ·go_meet
          case rel=>exact ⟨rfl,by rw [hv.out.1]⟩
         ·rename_i heq
          go_meet
          case rel=>exact ⟨rfl,by rw [hv.out.2 (by omega)]⟩
       case rest =>
        obtain ⟨rfl,rfl⟩:=hcut;have KW:=zb (zb (Below.refl wp.heap.size wp) (.cells #[.string x.s,.int .i64 x.c,.int .i64 x.r,.int .i64 x.a1,.int .i64 x.b1,.int .i64 x.a2,.int .i64 x.b2,.int .i64 x.a3,.int .i64 x.b3,.int .i64 x.a4,.int .i64 x.b4] 35)) (.cells #[.int .i64 (r:Int),.int .i64 0,.int .i64 rr,.int .i64 x.c,.int .i64 (i:Int)] 115);have HS4:=Hd (HS3.out.kept KW);have HM4:Hid (zA _ (gb+1) (zM gs)):=Hd (HM3.out.of_block (KW.block _ hmbl))
        have HC4:Hid (((wp.alloc (.cells #[.string x.s,.int .i64 x.c,.int .i64 x.r,.int .i64 x.a1,.int .i64 x.b1,.int .i64 x.a2,.int .i64 x.b2,.int .i64 x.a3,.int .i64 x.b3,.int .i64 x.a4,.int .i64 x.b4] 35)).alloc (.cells #[.int .i64 (r:Int),.int .i64 0,.int .i64 rr,.int .i64 x.c,.int .i64 (i:Int)] 115)).heap[wp.heap.size+1]?=some (.cells #[.int .i64 (r:Int),.int .i64 0,.int .i64 rr,.int .i64 x.c,.int .i64 (i:Int)] 115)):=Hd (by
         have:=zf (wp.alloc (.cells #[.string x.s,.int .i64 x.c,.int .i64 x.r,.int .i64 x.a1,.int .i64 x.b1,.int .i64 x.a2,.int .i64 x.b2,.int .i64 x.a3,.int .i64 x.b3,.int .i64 x.a4,.int .i64 x.b4] 35)) (.cells #[.int .i64 (r:Int),.int .i64 0,.int .i64 rr,.int .i64 x.c,.int .i64 (i:Int)] 115)
         simpa using this)
        generalize (wp.alloc (.cells #[.string x.s,.int .i64 x.c,.int .i64 x.r,.int .i64 x.a1,.int .i64 x.b1,.int .i64 x.a2,.int .i64 x.b2,.int .i64 x.a3,.int .i64 x.b3,.int .i64 x.a4,.int .i64 x.b4] 35)).alloc (.cells #[.int .i64 (r:Int),.int .i64 0,.int .i64 rr,.int .i64 x.c,.int .i64 (i:Int)] 115)=W1 at HS4 HM4 HC4 ⊢
        have KF:Hid (∀ (k:Nat) (W:World),k≤F→zA W (gb+1) (zM gs)→Calls Try.prog 95 #[.map (some (gb+1)),.agg #[.int .i64 (r:Int),.int .i64 (k:Int),.int .i64 rr,.int .i64 x.c,.int .i64 (i:Int)]] W fun e w'=>e=.returned (.bool (z0k gs ⟨r,k,rr,x.c,i⟩))∧Below W.heap.size W w'):=fun k W hk hT=>by
         have hf:z11 t.rows.length 94 (⟨r,k,rr,x.c,i⟩:GC)=true:=(HF4.out k (by omega)).fits;have h1:=z6o (x:=⟨r,k,rr,x.c,i⟩) hf (by omega) (by omega) W (gb+1) (zM gs) hT;rw [z6H (fun a ha=>(HGS.out a ha).fits) hf (by omega) (by omega)] at h1;exact h1
        clear KW HS3 HM3 v0 v1 v2 v3 v4 v5 v6 v7 v8 v9 v10;go_wp2_with fail
        go_loopg [55] (F+1) (fun kx _ W=>∃ k:Nat,k≤F∧F+1 - k≤kx∧Hid (SG w gb ac (some ⟨g,off,none⟩) cc cr t C2 (.slice va gs.length vcp) gs W)∧Hid (zA W (gb+1) (zM gs))∧Hid (W.heap[wp.heap.size+1]?=some (.cells #[.int .i64 (r:Int),.int .i64 (k:Int),.int .i64 rr,.int .i64 x.c,.int .i64 (i:Int)] 115)))
        case atStart=>exact ⟨0,by omega,by omega,HS4,HM4,HC4⟩
        case round =>
         obtain ⟨k,hkF,hkx3,HS6,HM6,HC6⟩:=hrel;clear HS4 HM4 HC4;obtain ⟨⟨b0,b1,b2,b3,b4⟩,fb0,fb1,fb2,fb3,fb4⟩:=z0M HC6.out;by_cases hkF2:k < F
         ·have KF2:=Hd (KF.out k wr hkF HM6.out);rw [HF3.out k hkF2] at KF2;go_wp2_with fail
          refine KF2.out.mono ?_;rintro e w7 ⟨rfl,hb7⟩;have hC7:=zU HC6.out hb7;have c1:w7.cell? ⟨wp.heap.size+1,1,none⟩=some (.int .i64 (k:Int)):=zc hC7;have f1:w7.frozen? ⟨wp.heap.size+1,1,none⟩=false:=zn hC7;have HS7:Hid (SG w gb ac (some ⟨g,off,none⟩) cc cr t C2 (.slice va gs.length vcp) gs (w7.setCell ⟨wp.heap.size+1,1,none⟩ (.int .i64 ((k:Int)+1)))):=(HS6.out.kept hb7).bkc ((Bk.refl (wp.heap.size+1) w7).set (p:=⟨wp.heap.size+1,1,none⟩) (.inl rfl) _) (by omega) (by omega) (fun b hb=>by have:=hvb b hb;omega);have HM7:Hid (zA (w7.setCell ⟨wp.heap.size+1,1,none⟩ (.int .i64 ((k:Int)+1))) (gb+1) (zM gs)):=HM6.out.of_block ((Below.heap_setCell _ _ _ _ (by show gb+1 ≠ wp.heap.size+1;omega)).trans (hb7.block _ HM6.out.lt));have HC7:Hid ((w7.setCell ⟨wp.heap.size+1,1,none⟩ (.int .i64 ((k:Int)+1))).heap[wp.heap.size+1]?=some (.cells #[.int .i64 (r:Int),.int .i64 ((k:Int)+1),.int .i64 rr,.int .i64 x.c,.int .i64 (i:Int)] 115)):=zL hC7 _;clear hC7 hb7 HS6 HC6 HM6 KF2 b0 b1 b2 b3 b4 fb0 fb1 fb2 fb3 fb4;go_wp2;go_roundg (gk - 1)
          case measure=>omega
          case rel=>exact ⟨k+1,by omega,by omega,HS7,HM7,HC7⟩
         ·obtain rfl:k=F:=by omega
          have KF2:=Hd (KF.out k wr hkF HM6.out);rw [HF2.out] at KF2;obtain ⟨i0,hi0,hz0',hz1',hz2'⟩:=info_parts z5D;have hfk:z11 t.rows.length 94 (⟨r,k,rr,x.c,i⟩:GC)=true:=(HF4.out k (by omega)).fits
          have hlk:(zM gs).length≤40 * 752:=by
           have:=z2R (R:=t.rows.length) (C:=94) (by omega) (by omega) gs (fun a ha=>(HGS.out a ha).fits);omega
          have KT:=Hd (fun (W:World) (hT:zA W (gb+1) (zM gs))=>z7a (x:=⟨r,k,rr,x.c,i⟩) hfk (by omega) (by omega) W (gb+1) (zM gs) hT hlk);clear hfk hlk;go_wp2_with fail
          refine KF2.out.mono ?_;rintro e w7 ⟨rfl,hb7⟩;have hS7:=HS6.out.kept hb7;have hC7:=zU HC6.out hb7;have hM7:zA w7 (gb+1) (zM gs):=HM6.out.of_block (hb7.block _ HM6.out.lt);obtain ⟨⟨d0,d1,d2,d3,d4⟩,_⟩:=z0M hC7;clear b0 b1 b2 b3 b4 fb0 fb1 fb2 fb3 fb4 KF2;go_wp2_with fail
          refine (KT.out _ hM7).mono ?_;rintro e w8 ⟨⟨vt,rfl⟩,hM8,hg8⟩;have hS8:=hS7.take hM7 (by omega) hg8;have hC8:=zB hC7 hg8 (fun e=>by injection e with e;exact z2H hM7 hC7 e.symm);obtain ⟨⟨d0',d1',d2',d3',d4'⟩,_⟩:=z0M hC8;obtain ⟨⟨e0,e1,e2⟩,_⟩:=z0U hS8.grd;have hla:=zb (Below.refl w8.heap.size w8) (.cells #[.int .i64 (r:Int),.int .i64 (k:Int),.int .i64 rr,.int .i64 x.c,.int .i64 (i:Int)] 115);have hSA:=hS8.kept hla;have hCA:=zU hC8 hla;have hMA:zA _ (gb+1) _:=hM8.of_block (hla.block _ hM8.lt);have hXN:=zf w8 (.cells #[.int .i64 (r:Int),.int .i64 (k:Int),.int .i64 rr,.int .i64 x.c,.int .i64 (i:Int)] 115);have hz8:w.heap.size+2≤w8.heap.size:=(by have:=(bL hS8.res);omega);clear d0 d1 d2 d3 d4;go_wp2_with (at_builtin;refine wpList_append_own _ rfl _ _ 96 rfl (w.heap.size+2) 115 i0 _ 5 40 Try.underlying96 hi0 hz0' hz1' hz2' rfl (by decide) _ _ _ rfl hSA.own ⟨w8.heap.size,0,none⟩ 1 1 (z2c ⟨r,k,rr,x.c,i⟩) rfl rfl (z02 hXN) (by simp [z2c,Value.oneCell']) (by unfold maxLen;omega) (by omega) (by simp;omega) ?_)
          intro v' wq hown' hg' _;have hUb:∀ b,(Value.slice va gs.length vcp).ownBlock=some b→w.heap.size+2≤b:=fun b hb=>(z0d hSA.own hb).1;have hB8:Below w.heap.size w wq:=hSA.bel.grown hg' hSA.bel.size (fun j e=>by have:=hUb j e;omega);have hT8:=zB hSA.tbl hg' (zG (zh hSA.own hSA.tbl (by decide)));have hR8:=zB hSA.res hg' (zG (zh hSA.own hSA.res (by decide)));have hG8:=zB hSA.grd hg' (zG (zh hSA.own hSA.grd (by decide)));have hC9:=zB hCA hg' (z4W (fun b hb=>by have:=hvb b hb;omega))
          have hM9:zA wq (gb+1) (zM (gs ++ [(⟨r,k,rr,x.c,i⟩:GC)])):=by
           rw [z46];exact hMA.of_block (hg'.block _ hMA.lt (z4X hMA hSA.own))
          obtain ⟨ve,vq,rfl,_⟩:=zu hown'
          have hO8:wq.ownsRow (w.heap.size+2) 115 5 (.slice ve (gs.length+1) vq) (gs ++ [(⟨r,k,rr,x.c,i⟩:GC)]).length ((gs ++ [(⟨r,k,rr,x.c,i⟩:GC)]).flatMap z2c):=by
           rw [List.length_append,List.flatMap_append]
           simpa using hown'
          have hgc:gb ≠ wp.heap.size+1:=(by omega);have g2':wq.cell? ⟨gb,2,none⟩=some (.slice va gs.length vcp):=zc hG8;have gf2:wq.frozen? ⟨gb,2,none⟩=false:=zn hG8;have hG9:(wq.setCell ⟨gb,2,none⟩ (.slice ve (gs.length+1) vq)).heap[gb]?=some (.cells #[.int .i64 (t.rows.length:Int),.int .i64 C2,(.slice ve (gs.length+1) vq)] 98):=zL hG8 _;have HC9:Hid ((wq.setCell ⟨gb,2,none⟩ (.slice ve (gs.length+1) vq)).heap[wp.heap.size+1]?=some (.cells #[.int .i64 (r:Int),.int .i64 (k:Int),.int .i64 rr,.int .i64 x.c,.int .i64 (i:Int)] 115)):=(Below.heap_setCell _ _ _ _ (fun e=>hgc e.symm)).trans hC9;have HS9:Hid (SG w gb ac (some ⟨g,off,none⟩) cc cr t C2 (.slice ve (gs.length+1) vq) (gs ++ [(⟨r,k,rr,x.c,i⟩:GC)]) (wq.setCell ⟨gb,2,none⟩ (.slice ve (gs.length+1) vq))):=⟨hB8.setCell (by show _≤gb;omega) _,(Below.heap_setCell _ _ _ _ (by show _ ≠ gb;omega)).trans hT8,(Below.heap_setCell _ _ _ _ (by show _ ≠ gb;omega)).trans hR8,hG9,zV hO8 hG8 (by decide) _⟩;have HM9:Hid (zA (wq.setCell ⟨gb,2,none⟩ (.slice ve (gs.length+1) vq)) (gb+1) (zM (gs ++ [(⟨r,k,rr,x.c,i⟩:GC)]))):=hM9.of_block (Below.heap_setCell _ _ _ _ (by show gb+1 ≠ gb;omega));clear hown' hg' hUb hB8 hT8 hR8 hG8 hC8 hC9 hM9 hO8 hSA hCA hMA hXN hla hS7 hC7 hM7 hS8 hM8 hg8 d0' d1' d2' d3' d4' e0 e1 e2 HS6 HC6 HM6 hb7 hG9 KT KF;go_upto_region 17 with fail
          clear g2' gf2;generalize wq.setCell ⟨gb,2,none⟩ (.slice ve (gs.length+1) vq)=w9 at HS9 HC9 HM9 ⊢;obtain ⟨⟨j0,j1,j2,j3,j4⟩,_⟩:=z0M HC9.out;obtain ⟨⟨l0,l1,l2⟩,m0,m1,m2⟩:=z0U HS9.out.grd
          rcases Int.lt_trichotomy C2 ((k:Int)+x.c) with hmx | hmx | hmx
          ·have hv:Hid (max C2 ((k:Int)+x.c)=(k:Int)+x.c):=Hd (by omega);have HSZ:Hid (SG w gb ac (some ⟨g,off,none⟩) cc cr t (max C2 ((k:Int)+x.c)) (.slice ve (gs.length+1) vq) (gs ++ [(⟨r,k,rr,x.c,i⟩:GC)]) (w9.setCell ⟨gb,1,none⟩ (.int .i64 (max C2 ((k:Int)+x.c))))):=⟨HS9.out.bel.setCell (by show _≤gb;omega) _,(Below.heap_setCell _ _ _ _ (by show _ ≠ gb;omega)).trans HS9.out.tbl,(Below.heap_setCell _ _ _ _ (by show _ ≠ gb;omega)).trans HS9.out.res,zL HS9.out.grd _,zV HS9.out.own HS9.out.grd (by decide) _⟩;have HMZ:Hid (zA (w9.setCell ⟨gb,1,none⟩ (.int .i64 (max C2 ((k:Int)+x.c)))) (gb+1) (zM (gs ++ [(⟨r,k,rr,x.c,i⟩:GC)]))):=HM9.out.of_block (Below.heap_setCell _ _ _ _ (by show gb+1 ≠ gb;omega));have HCZ:Hid (max C2 ((k:Int)+x.c)=zQ (max 1 (t.cols.length:Int)) (gs ++ [(⟨r,k,rr,x.c,i⟩:GC)])):=Hd (by rw [z1K,← HC2.out]);rw [← HNX.out] at HSZ HCZ HMZ;rw [hv.out] at HSZ HCZ HMZ;clear HS9 HC9 HM9;go_wp2
           all_goals
            go_roundg (cs.length - (i+1))
            case measure=>omega
            case rel=>exact ⟨i+1,_,(.slice ve (gs.length+1) vq),by go_num,by omega,by omega,HCZ,HSZ,HMZ⟩
          ·have hv:Hid (max C2 ((k:Int)+x.c)=(k:Int)+x.c):=Hd (by omega);have HSZ:Hid (SG w gb ac (some ⟨g,off,none⟩) cc cr t (max C2 ((k:Int)+x.c)) (.slice ve (gs.length+1) vq) (gs ++ [(⟨r,k,rr,x.c,i⟩:GC)]) (w9.setCell ⟨gb,1,none⟩ (.int .i64 (max C2 ((k:Int)+x.c))))):=⟨HS9.out.bel.setCell (by show _≤gb;omega) _,(Below.heap_setCell _ _ _ _ (by show _ ≠ gb;omega)).trans HS9.out.tbl,(Below.heap_setCell _ _ _ _ (by show _ ≠ gb;omega)).trans HS9.out.res,zL HS9.out.grd _,zV HS9.out.own HS9.out.grd (by decide) _⟩;have HMZ:Hid (zA (w9.setCell ⟨gb,1,none⟩ (.int .i64 (max C2 ((k:Int)+x.c)))) (gb+1) (zM (gs ++ [(⟨r,k,rr,x.c,i⟩:GC)]))):=HM9.out.of_block (Below.heap_setCell _ _ _ _ (by show gb+1 ≠ gb;omega));have HCZ:Hid (max C2 ((k:Int)+x.c)=zQ (max 1 (t.cols.length:Int)) (gs ++ [(⟨r,k,rr,x.c,i⟩:GC)])):=Hd (by rw [z1K,← HC2.out]);rw [← HNX.out] at HSZ HCZ HMZ;rw [hv.out] at HSZ HCZ HMZ;clear HS9 HC9 HM9;go_wp2
           all_goals
            go_roundg (cs.length - (i+1))
            case measure=>omega
            case rel=>exact ⟨i+1,_,(.slice ve (gs.length+1) vq),by go_num,by omega,by omega,HCZ,HSZ,HMZ⟩
          ·have hv:Hid (max C2 ((k:Int)+x.c)=C2):=Hd (by omega);have HSZ:Hid (SG w gb ac (some ⟨g,off,none⟩) cc cr t (max C2 ((k:Int)+x.c)) (.slice ve (gs.length+1) vq) (gs ++ [(⟨r,k,rr,x.c,i⟩:GC)]) (w9.setCell ⟨gb,1,none⟩ (.int .i64 (max C2 ((k:Int)+x.c))))):=⟨HS9.out.bel.setCell (by show _≤gb;omega) _,(Below.heap_setCell _ _ _ _ (by show _ ≠ gb;omega)).trans HS9.out.tbl,(Below.heap_setCell _ _ _ _ (by show _ ≠ gb;omega)).trans HS9.out.res,zL HS9.out.grd _,zV HS9.out.own HS9.out.grd (by decide) _⟩;have HMZ:Hid (zA (w9.setCell ⟨gb,1,none⟩ (.int .i64 (max C2 ((k:Int)+x.c)))) (gb+1) (zM (gs ++ [(⟨r,k,rr,x.c,i⟩:GC)]))):=HM9.out.of_block (Below.heap_setCell _ _ _ _ (by show gb+1 ≠ gb;omega));have HCZ:Hid (max C2 ((k:Int)+x.c)=zQ (max 1 (t.cols.length:Int)) (gs ++ [(⟨r,k,rr,x.c,i⟩:GC)])):=Hd (by rw [z1K,← HC2.out]);rw [← HNX.out] at HSZ HCZ HMZ;rw [hv.out] at HSZ HCZ HMZ;clear HS9 HC9 HM9;go_wp2
           all_goals
            go_roundg (cs.length - (i+1))
            case measure=>omega
            case rel=>exact ⟨i+1,_,(.slice ve (gs.length+1) vq),by go_num,by omega,by omega,HCZ,HSZ,HMZ⟩
      ·obtain rfl:i=cs.length:=by omega
       have HSE:Hid (SG w gb ac (some ⟨g,off,none⟩) cc cr t C2 vg2 (zv t (r+1)) wp):=by
        show SG _ _ _ _ _ _ _ _ _ (z0n (zt t r) r (t.rows.getD r dR).cells (zv t r) (t.rows.getD r dR).cells.length) _;rw [HE.out];exact HS3.out
       have HME:Hid (zA wp (gb+1) (zM (zv t (r+1)))):=by
        show zA _ _ (zM (z0n (zt t r) r (t.rows.getD r dR).cells (zv t r) (t.rows.getD r dR).cells.length));rw [HE.out];exact HM3.out
       have HCE:Hid (C2=zQ (max 1 (t.cols.length:Int)) (zv t (r+1))):=by
        show C2=zQ _ (z0n (zt t r) r (t.rows.getD r dR).cells (zv t r) (t.rows.getD r dR).cells.length);rw [HE.out];exact HC2.out
       clear HS3 HC2 HM3;go_wp2;go_roundg (t.rows.length - (r+1))
       case measure=>omega
       case rel=>exact ⟨r+1,C2,vg2,by go_num,by omega,by omega,HCE,HSE,HME⟩
    ·obtain rfl:r=t.rows.length:=by omega
     obtain ⟨va,vq,rfl,_⟩:=zu HS1.out.own;obtain ⟨⟨l0,l1,l2⟩,_⟩:=z0U HS1.out.grd;obtain ⟨⟨x0,x1,x2⟩,y0,y1,y2⟩:=z0U HS1.out.res;have h1:=zL (p:=0) HS1.out.res (.int .i64 (t.rows.length:Int));have h2:=zL (p:=1) h1 (.int .i64 C);have o1:=zV (p:=0) HS1.out.own HS1.out.res (by decide) (.int .i64 (t.rows.length:Int));have o2:=zV (p:=1) o1 h1 (by decide) (.int .i64 C);have o3:=zV (p:=2) o2 h2 (by decide) (.slice va (zv t t.rows.length).length vq);have HO:=Hd (z0P o3 (by omega:w.heap.size≤w.heap.size+2));have HB:=Hd (((HS1.out.bel.setCell (p:=⟨w.heap.size+1,0,none⟩) (by show _≤w.heap.size+1;omega) (.int .i64 (t.rows.length:Int))).setCell (p:=⟨w.heap.size+1,1,none⟩) (by show _≤w.heap.size+1;omega) (.int .i64 C)).setCell (p:=⟨w.heap.size+1,2,none⟩) (by show _≤w.heap.size+1;omega) (.slice va (zv t t.rows.length).length vq));clear h1 h2 o1 o2 o3 HS1 HM1;go_wp2;exact bodyPost_ret (v:=.agg #[.int .i64 (t.rows.length:Int),.int .i64 C,(.slice va (zv t t.rows.length).length vq)]) (by simp [results,Try.results79,go_sem,x0,x1,x2]) rfl ⟨_,by rw [HG.out,HCC.out];rfl,by rw [HG.out];exact HO.out,HB.out⟩
end Go.Proofs.Ytggmjiddadjilam
