/-
  PROVED HERE: what the model's GrdBlocks answers at a grid that lies in memory, and that its answer owns its memory; nothing that was in memory is turned. Also: 5 more texts of the same proof.
-/
import Derived.Test.YtggmjiddadjilahGreatH30
import Derived.Test.YtggmjiddadjilahGreatH22
set_option maxRecDepth 1000000
set_option maxHeartbeats 40000000
open Go.Proofs.Tryz
namespace Go.Proofs.YtggmjiddadjilahGreat
open Value (int)
open IntKind (i64)
section
open Go.RowKit Go.BigFrame
theorem zfS (gs:List GC) (row:Int) (k:Nat) (hk:k < gs.length):(!(gs.take (k+1)).any (z2d row))=((!(gs.take k).any (z2d row)) && !z2d row (gs.getD k dG)):=by
 rw [List.take_succ_eq_append_getElem hk,List.any_append];simp [List.getD,hk]
theorem zcr (R C:Int) (ac:Option Addr) (cc:Nat) (gs:List GC) (w:World) {z:Nat} (h:z1v w z (.slice ac gs.length cc) gs) :
  Calls prog 96 #[.agg #[int i64 R,int i64 C,.slice ac gs.length cc]] w λe w'=>∃ v,e=.returned v/\zt w' w.heap.size w'.heap.size v (z4d ⟨R,C,gs⟩)/\Below w.heap.size w w':=by
 obtain ⟨_,_,_,hlen⟩:=At.form h;unfold maxLen at hlen;obtain ⟨i0,hi,hz0,hz1,hz2⟩:=info_parts za0;have K0:=O (ze (ze (Below.refl w.heap.size w) (.cells #[int i64 R,int i64 C,.slice ac gs.length cc] 38)) (.cells #[] 3));have H:=O h;clear h;have KO:=O (zhF R C ac cc gs _ (H.out.kept K0.out))
 cases ho:okB ⟨R,C,gs⟩ with
 | false =>
  have HF:=O (z9Z ho);rw [ho] at KO;clear ho;go_enter func96,ntmps96;go_wp2_with fail
  refine KO.out.mono ?_;rintro e w1 ⟨rfl,hb1⟩;have K1:=O (zi K0.out hb1);have E1:Hid (w1.heap[w.heap.size+1]?=some (.cells #[] 3)):=O ((hb1.block (w.heap.size+1) (by simp)).trans (by have:=zk (w.alloc (.cells #[int i64 R,int i64 C,.slice ac gs.length cc] 38)) (.cells #[] 3);rwa [World.size_alloc] at this));clear hb1;go_wp2;go_ret;refine ⟨_,rfl,?_,K1.out⟩;rw [HF.out];refine .inr ⟨w.heap.size+1,0,#[],rfl,by omega,(bL E1.out),E1.out,lR,nZ,rfl,λi hi=>absurd hi (Nat.not_lt_zero _)⟩
 | true =>
  have HF:=O (z61 ho);rw [ho] at KO;have ho2:=ho;simp only [okB,Bool.and_eq_true] at ho2;obtain ⟨hR1,hR2,hC1,hC2,hn⟩:=z6G ho2.1;have HFit:=O (z5N lR ho2.2);rw [List.take_length] at HFit;obtain ⟨Rn,rfl⟩:∃ Rn:Nat,R=Rn:=⟨R.toNat,by omega⟩;clear ho ho2;go_enter func96,ntmps96;go_wp2_with fail
  refine KO.out.mono ?_;rintro e w1 ⟨rfl,hb1⟩;have K1:=O (zi K0.out hb1);have X1:=O ((hb1.block w.heap.size (by simp;omega)).trans ((bA (by simp)).trans (zk _ _)));have E1:Hid (w1.heap[w.heap.size+1]?=some (.cells #[] 3)):=O ((hb1.block (w.heap.size+1) (by simp)).trans (by have:=zk (w.alloc (.cells #[int i64 (Rn:Int),int i64 C,.slice ac gs.length cc] 38)) (.cells #[] 3);rwa [World.size_alloc] at this));have hs1:w.heap.size+2<=w1.heap.size:=(by have:=hb1.size;simp at this;omega)
  have HO1:Hid (w1.ownsRow (w.heap.size+1) 3 1 (.slice (some ⟨w.heap.size+1,0,none⟩) 0 0) (zL gs 0).length ((zL gs 0).map (Value.int .i64))) :=
   ⟨by simp,.inr ⟨w.heap.size+1,0,#[],rfl,lR,E1.out,lR,nZ,rfl,rfl⟩⟩
  clear hb1;go_wp2_with fail
  go_loopw [4,3] (λi v W=>∃ (k:Nat) (vb:Value),k<=Rn/\i=int i64 k/\v=vb/\Hid (W.ownsRow (w.heap.size+1) 3 1 vb (zL gs k).length ((zL gs k).map (Value.int .i64)))/\Hid (Below w.heap.size w W)/\Hid (W.heap[w.heap.size]?=some (.cells #[int i64 (Rn:Int),int i64 C,.slice ac gs.length cc] 38))/\w.heap.size+2<=W.heap.size) (λi _ _=>Rn - (intOf i).toNat)
  case atStart=>exact ⟨0,_,nZ,rfl,rfl,HO1,K1,X1,hs1⟩
  case round =>
   obtain ⟨k,vb,hk,rfl,rfl,HO,HB,HX,hsr⟩:=hrel;have g0:wr.cell? ⟨w.heap.size,0,none⟩=some (int i64 (Rn:Int)):=zf HX.out;by_cases hlt:k < Rn
   ·have hbl:=z3g gs k;go_wp2_with fail
    go_loopw [6,5] (λi f W=>∃ (j n:Nat),j<=gs.length/\i=int i64 j/\f=.bool (!(gs.take j).any (z2d (k:Int)))/\W=wr.drewN n) (λi _ _=>gs.length - (intOf i).toNat)
    case atStart=>exact ⟨0,0,nZ,rfl,rfl,rfl⟩
    case round =>
     obtain ⟨j,nd,hj,rfl,rfl,rfl⟩:=hrel;have g2:wr.cell? ⟨w.heap.size,2,none⟩=some (.slice ac gs.length cc):=zf HX.out;by_cases hlj:j < gs.length
     ·have hlj':(j:Int) < (gs.length:Int):=(by omega);have h0':(0:Int)<=(j:Int):=(by omega);obtain ⟨q,off,cap',e',hc1,hc2,hbq,hx,hs⟩:=At.get (H.out.kept HB.out) hlj;simp only [Value.slice.injEq,true_and] at e';obtain ⟨rfl,rfl⟩:=e';have HS:=O (zfS gs (k:Int) j hlj);have hfit:z0j (Rn:Int) C (gs.getD j dG)=true:=HFit.out _ (by simp [List.getD,hlj]);obtain ⟨e1,e2,e3,e4,f1,f2,f3,f4⟩:=z4c hfit;generalize gs.getD j dG=x at *;generalize (!(gs.take j).any (z2d (k:Int)))=fb at *;obtain ⟨x0,x1,x2,x3,x4⟩:=hx;unfold maxLen at hc2;have b0:0<=x.row/\x.row<=8/\0<=x.rows/\x.rows<=8:=(by omega);clear hs hfit e1 e2 e3 e4 f1 f2 f3 f4
      cases fb with
      | false =>
       have HS':Hid ((!(gs.take (j+1)).any (z2d (k:Int)))=false):=(by show (!(gs.take (j+1)).any (z2d (k:Int)))=false;rw [HS.out];rfl);clear HS;go_wp2_with fail
       go_quiet (fail)
       go_wp2;go_roundw
       case rel=>exact ⟨j+1,nd+nq,by omega,by go_num,by rw [HS'.out],rfl⟩
       case measure=>simp [intOf];omega
      | true =>
       by_cases h1:x.row < (k:Int)
       ·have d1:decide (x.row < (k:Int))=true:=decide_eq_true h1;by_cases h2:(k:Int) < x.row+x.rows
        ·have d2:decide ((k:Int) < x.row+x.rows)=true:=decide_eq_true h2;have HS':Hid ((!(gs.take (j+1)).any (z2d (k:Int)))=false):=(by show (!(gs.take (j+1)).any (z2d (k:Int)))=false;rw [HS.out];simp only [z2d,d1,d2];rfl);clear HS;go_wp2_with fail
         go_quiet (fail)
         go_wp2;go_roundw
         case rel=>exact ⟨j+1,nd+nq,by omega,by go_num,by rw [HS'.out],rfl⟩
         case measure=>simp [intOf];omega
        ·have d2:decide ((k:Int) < x.row+x.rows)=false:=decide_eq_false h2;have HS':Hid ((!(gs.take (j+1)).any (z2d (k:Int)))=true):=(by show (!(gs.take (j+1)).any (z2d (k:Int)))=true;rw [HS.out];simp only [z2d,d1,d2];rfl);clear HS;go_wp2_with fail
         go_quiet (fail)
         go_wp2;go_roundw
         case rel=>exact ⟨j+1,nd+nq,by omega,by go_num,by rw [HS'.out],rfl⟩
         case measure=>simp [intOf];omega
       ·have d1:decide (x.row < (k:Int))=false:=decide_eq_false h1;have HS':Hid ((!(gs.take (j+1)).any (z2d (k:Int)))=true):=(by show (!(gs.take (j+1)).any (z2d (k:Int)))=true;rw [HS.out];simp only [z2d,d1];rfl);clear HS;go_wp2_with fail
        go_quiet (fail)
        go_wp2;go_roundw
        case rel=>exact ⟨j+1,nd+nq,by omega,by go_num,by rw [HS'.out],rfl⟩
        case measure=>simp [intOf];omega
     ·obtain rfl:j=gs.length:=by omega
      have HO2:Hid ((wr.drewN nd).ownsRow (w.heap.size+1) 3 1 _ (zL gs k).length ((zL gs k).map (Value.int .i64))):=HO.out;have HB2:=O (z4a HB.out nd);have HX2:Hid ((wr.drewN nd).heap[w.heap.size]?=some (.cells #[int i64 (Rn:Int),int i64 C,.slice ac gs.length cc] 38)):=HX.out;have hs2:w.heap.size+2<=(wr.drewN nd).heap.size:=hsr;have hfb:(!(gs.take gs.length).any (z2d (k:Int)))=!z2h gs (k:Int):=(by rw [List.take_length];rfl);rw [hfb];clear hfb;generalize wr.drewN nd=w2 at *;have g3:w2.cell? ⟨w.heap.size,2,none⟩=some (.slice ac gs.length cc):=zf HX2.out
      cases h1:z2h gs (k:Int) with
      | true =>
       have HS:=O (z87 h1);rw [show (!true)=false from rfl];clear h1;go_wp2;go_roundw
       case rel=>exact ⟨k+1,_,by omega,by go_num,rfl,by rw [HS.out];exact HO2,HB2,HX2,hs2⟩
       case measure=>simp [intOf];omega
      | false =>
       have HS:=O (z92 h1);have hO2:=HO2.out;rw [show (!false)=true from rfl];clear h1 HO HO2;go_wp2_with (at_builtin;refine wpList_append_own _ rfl _ _ 27 rfl (w.heap.size+1) 3 i0 (int i64 0) 1 8 underlying27 hi hz0 hz1 hz2 rfl (by decide) _ _ _ rfl (hO2.alloc _) ⟨w2.heap.size,0,none⟩ 1 1 [int i64 (k:Int)] rfl rfl ?c1 ?c2 ?c3 ?c4 ?c5 ?_)
       case c1 =>
        intro i u hi
        match i,hi with
        | 0,hi=>simp at hi;subst hi;simp [Addr.add]
       case c2=>intro u hu;simp at hu;subst hu;rfl
       case c3=>unfold maxLen;omega
       case c4=>omega
       case c5=>simp;omega
       intro v' w5 hown' hgrow' _;have hne:=zeJ hO2 (Nat.lt_succ_self w.heap.size);have HB5:Hid (Below w.heap.size w w5):=(ze HB2.out _).grown hgrow' (by simp;omega) (λj e=>by have:=zgq hO2 e;omega);have HX5:Hid (w5.heap[w.heap.size]?=_):=O ((hgrow'.block w.heap.size (by simp;omega) hne).trans ((bA (by omega)).trans HX2.out));have hs5:w.heap.size+2<=w5.heap.size:=(by have:=hgrow'.size;simp at this;omega);have HO5:Hid (w5.ownsRow (w.heap.size+1) 3 1 v' (zL gs (k+1)).length ((zL gs (k+1)).map (Value.int .i64))):=O (by rw [HS.out];simpa using hown');obtain ⟨g',cap',rfl⟩:=Joins.ownsRow_form hown' (by omega);clear hown' hgrow' hO2 hne;go_wp2;go_roundw
       case rel=>exact ⟨k+1,_,by omega,by go_num,rfl,HO5,HB5,HX5,hs5⟩
       case measure=>simp [intOf];omega
   ·obtain rfl:k=Rn:=by omega
    go_wp2;go_ret;refine ⟨_,rfl,?_,HB.out⟩;rw [HF.out];exact (zt.of_owns HO.out).base (by omega) lR
end
section
open Go.RowKit
def zaJ:Value->Nat
 | .slice _ n _=>n
 | _=>0
structure C9f (w W:World) (B P:Nat) (rm:List Int) (r:Int) (n f:Nat) (A0:Int) (L0 G0:Nat) (TGT:List (List zm) × List zm) (pv:Value) (us:List Value) (pgs:List (List zm)) (gv:Value) (page:List zm):Prop where
 hf:f<=n
 p:P9 W B P pv us pgs gv page
 e:(z0q r (f:Int) (n - f)).foldl (zY rm) (pgs,page)=TGT
 st:f < n->z6h page r\/(page ≠ []/\zN rm pgs.length - zv page<=0)
 h0:0<=zv page
 h1:zv page+((n:Int) - f)<=A0
 gl:page.length<=G0+f
 pl:pgs.length+min 1 page.length<=L0+f
 b:Below B w W
 tf:TF w W
 bs:B<=W.heap.size
theorem C9f.kept {w W W':World} {B P:Nat} {rm:List Int} {r:Int} {n f:Nat} {A0:Int} {L0 G0:Nat} {TGT:List (List zm) × List zm} {pv:Value} {us:List Value} {pgs:List (List zm)} {gv:Value} {page:List zm} (h:C9f w W B P rm r n f A0 L0 G0 TGT pv us pgs gv page) (k:Below W.heap.size W W'):C9f w W' B P rm r n f A0 L0 G0 TGT pv us pgs gv page :=
 { h with p:=h.p.kept k,b:=h.b.trans (k.mono h.bs),tf:=h.tf.trans (TF.of_below k),bs:=nT h.bs k.size }
theorem C9f.push {w W w2:World} {B P:Nat} {rm:List Int} {r:Int} {n f:Nat} {A0:Int} {L0 G0:Nat} {TGT:List (List zm) × List zm} {pv v':Value} {us:List Value} {pgs:List (List zm)} {gv:Value} {page:List zm} {o:Obj} (h:C9f w W B P rm r n f A0 L0 G0 TGT pv us pgs gv page) (hg:(W.alloc o).grownBy w2 pv.ownBlock) (ho:w2.ownsRow B 41 1 v' (us.length+1) (us ++ [gv])) (hlt:f < n) (hp:page ≠ []) (hr:zN rm pgs.length - zv page<=0) :
  C9f w (w2.alloc (.cells #[] 45)) B w2.heap.size rm r n f A0 L0 G0 TGT v' (us ++ [gv]) (pgs ++ [page]) (.slice (some ⟨w2.heap.size,0,none⟩) 0 0) []:=by
 have hpl:=List.length_pos_iff.2 hp;have hs:=hg.size;rw [World.size_alloc] at hs;have h9:=h.h0;have h8:=h.h1;have h7:=h.pl;have h6:=h.bs;refine ⟨h.hf,h.p.push hg ho h.bs,?_,λ_=>.inl (λl hl=>by simp at hl),by simp [zv],?_,nZ,?_,h.p.pushed h.b hg h.bs,((h.tf.alloc o).grownP (h.p.own.alloc o) hg).alloc _,by simp;omega⟩
 ·rw [<-h.e];exact (zi0 (by omega) hp hr).symm
 ·rw [zjh];omega
 ·simp only [List.length_append,List.length_cons,List.length_nil];omega
theorem C9f.add {w W w4:World} {B P:Nat} {rm:List Int} {r:Int} {n f:Nat} {A0:Int} {L0 G0:Nat} {TGT:List (List zm) × List zm} {pv v':Value} {us:List Value} {pgs:List (List zm)} {gv:Value} {page:List zm} {o:Obj} (h:C9f w W B P rm r n f A0 L0 G0 TGT pv us pgs gv page) {k:Nat} {tt:Int}
  (hg:(W.alloc o).grownBy w4 gv.ownBlock) (ho:zx w4 P v' (page ++ [⟨r,(f:Int),tt⟩])) (hk1:0 < k) (hk2:k<=n - f) (hto:tt=(f:Int)+k) (hkm:(k:Int)<=max 1 (zN rm pgs.length - zv page)) (hkl:k < n - f->zN rm pgs.length - zv page<=k) (hpush:page=[]\/0 < zN rm pgs.length - zv page) (hlt:f < n) :
  C9f w w4 B P rm r n (f+k) A0 L0 G0 TGT pv us pgs v' (page ++ [⟨r,(f:Int),tt⟩]):=by
 have hs:=hg.size;rw [World.size_alloc] at hs;have h9:=h.h0;have h8:=h.h1;have h7:=h.pl;have h6:=h.bs;have h5:=h.gl;have KA:=ze (Below.refl W.heap.size W) o;have hbA:Below B w (W.alloc o):=h.b.trans (KA.mono h.bs);have hbs:B<=(W.alloc o).heap.size:=(by simp;omega)
 have hhi:zv (page ++ [⟨r,(f:Int),tt⟩])=zv page+k:=by
  rw [z1S,z3d,hto];simp only;omega
 have hnl:z6h page r:=by
  rcases h.st hlt with h1 | ⟨h1,h2⟩
  ·exact h1
  ·rcases hpush with h3 | h3
   ·exact absurd h3 h1
   ·omega
 refine ⟨by omega,(h.p.kept KA).add hg ho,?_,λh3=>.inr ⟨by simp,?_⟩,by omega,by rw [hhi];omega,?_,?_,(h.p.kept KA).grew hbA hg hbs,(h.tf.alloc o).grownS (h.p.kept KA).page hg,by omega⟩
 ·rw [<-h.e,zk8 hk1 hk2 hnl hpush hkm,hto];have e1:((f+k:Nat):Int)=(f:Int)+k:=(by omega);have e2:n - (f+k)=n - f - k:=(by omega);rw [e1,e2]
 ·rw [hhi];have:=hkl (by omega);omega
 ·rw [List.length_append,List.length_cons,List.length_nil];omega
 ·rw [List.length_append,List.length_cons,List.length_nil];omega
theorem zhJ (rm:List Int) (hl:0 < rm.length) (hl2:rm.length<=1000) (hrm:∀ k,-1000000<=zN rm k/\zN rm k<=1000) (vr:Value) (B P:Nat) (pv gv:Value) (us:List Value) (pgs:List (List zm)) (page:List zm) (r:Int) (n:Nat) (hn:n<=1000) (hnl:z6h page r) (h0:0<=zv page) (h1:zv page+n<=1000000) (hpl:pgs.length<=50000) (hgl:page.length<=50000)
  (w:World) (hB:B<=w.heap.size) (hr:∀ W,Below B w W->zA W vr rm) (hP:P9 w B P pv us pgs gv page) :
  Calls prog 54 #[pv,gv,int i64 r,int i64 (n:Int),vr] w λe w'=>∃ P' pv' us' gv',e=.returned (.tuple #[pv',gv'])/\P9 w' B P' pv' us' ((z0q r 0 n).foldl (zY rm) (pgs,page)).1 gv' ((z0q r 0 n).foldl (zY rm) (pgs,page)).2/\Below B w w'/\TF w w':=by
 obtain ⟨i0,hi0,hz0,hz1,hz2⟩:=info_parts z81;obtain ⟨j0,hj0,hy0,hy1,hy2⟩:=info_parts z5i;generalize hTG:(z0q r 0 n).foldl (zY rm) (pgs,page)=TGT;have H0:Hid (C9f w w B P rm r n 0 (zv page+n) (pgs.length+1) page.length TGT pv us pgs gv page):=O ⟨nZ,hP,hTG,λ_=>.inl hnl,h0,by omega,by omega,by omega,bR,TF.refl _,hB⟩;obtain ⟨ap,cp,rfl,_⟩:=zT hP.own;obtain ⟨ag,cg,rfl⟩:=hP.page.form;have HR:=O hr;have HM:=O hrm;have HT:=O hTG;obtain ⟨A0,hA0⟩:∃ A0,zv page+n=A0:=⟨_,rfl⟩;obtain ⟨L0,hL0⟩:∃ L0,pgs.length+1=L0:=⟨_,rfl⟩;obtain ⟨G0,hG0⟩:∃ G0,page.length=G0:=⟨_,rfl⟩;rw [hA0,hL0] at H0;have hA1:A0<=1000000:=(by omega);have hL1:L0<=50001:=(by omega);have hG1:G0<=50000:=(by omega);have HG:=O hG0;clear hP hr hrm hTG hnl h0 h1 hpl hgl hA0 hL0 hG0;go_enter func54,ntmps54;go_wp2_with fail
 go_loopw [0,1,12] (λpv gv i W=>∃ (f:Nat) (us:List Value) (pgs:List (List zm)) (page:List zm) (P:Nat),i=int i64 (f:Int)/\Hid (C9f w W B P rm r n f A0 L0 G0 TGT pv us pgs gv page)) (λ_ gv i _=>2 * (n - (intOf i).toNat)+min 1 (zaJ gv))
 case atStart=>exact ⟨0,us,pgs,page,P,rfl,by rw [<-HG.out];exact H0⟩
 case round =>
  clear H0 HT HG;obtain ⟨f,us,pgs,page,P,rfl,HC⟩:=hrel;obtain ⟨ap,cp,rfl,_⟩:=zT HC.out.p.own;obtain ⟨ag,cg,rfl⟩:=HC.out.p.page.form;have hf:=HC.out.hf;by_cases hlt:f < n
  case neg =>
   obtain rfl:f=n:=by omega
   have HE:Hid (TGT=(pgs,page)):=O (by rw [<-HC.out.e,Nat.sub_self];rfl);go_wp2;exact bodyPost_ret (v:=.tuple #[.slice ap us.length cp,.slice ag page.length cg]) (by simp [results,results54,go_sem]) rfl ⟨P,_,us,_,rfl,by rw [HE.out];exact HC.out.p,HC.out.b,HC.out.tf⟩
  have hul:=HC.out.p.len;have KR:=O (λW (h:zA W vr rm) (hx:pgs.length<=100000)=>zaG rm hl hl2 pgs.length hx vr W h);have b1:=HC.out.h0;have b2:=HC.out.h1;have b3:=HC.out.gl;have b4:=HC.out.pl;have b5:=HC.out.bs;have hlow:z3w page:=⟨b1,by omega⟩;have KA:=O (λW z (h:z1W W z (.slice ag page.length cg) page)=>(z4G hlow ▸ z7N _ page W h:Calls prog 99 #[.slice ag page.length cg] W λe w'=>e=.returned (int i64 (zv page))/\Below W.heap.size W w'));have hrb:=HM.out pgs.length;have hpl:pgs.length<=60000:=(by omega);have hub:us.length<=60000:=(by omega);have hgl:page.length<=60000:=(by omega);rw [hul] at HC |-;clear hlow hul b3 b4;have HR1:=HR.out wr HC.out.b;go_wp2_with fail
  refine (KR.out _ HR1 (by omega)).mono ?_;rintro e w1 ⟨rfl,k1⟩;replace HC:=O (HC.out.kept k1);clear k1 HR1 KR b5;go_wp2_with fail
  refine (KA.out _ _ HC.out.p.page.at).mono ?_;rintro e w2 ⟨rfl,k2⟩;have HQ:=O (HC.out.kept k2);have hB2:=HQ.out.bs;have hP2:=HQ.out.p.hi;have hBP:=HQ.out.p.le;clear k2 KA HC;have HQd:=O (λ(v':Value) (w4:World) (o:Obj) hg ho hp hr=>C9f.push HQ.out (v':=v') (w2:=w4) (o:=o) hg ho hlt hp hr);have HQa:=O (λ(v':Value) (w4:World) (o:Obj) (k:Nat) (tt:Int) hg ho h1 h2 h3 h4 h5 h6=>C9f.add HQ.out (v':=v') (w4:=w4) (o:=o) (k:=k) (tt:=tt) hg ho h1 h2 h3 h4 h5 h6 hlt);have HOp:=O (HQ.out.p.own);have HOg:=O (HQ.out.p.page);clear HQ;generalize zN rm pgs.length=R at HQd HQa hrb |-;generalize zv page=A at HQd HQa b1 b2 |-;have hwr:IntKind.i64.wrap (R - A)=R - A:=(by rw [IntKind.wrap_i64];omega);have hfr:((f:Int) < (n:Int))=True:=(by simp;omega);by_cases hfree:R - A<=0
  ·by_cases he:page=[]
   ·subst he;have hpush:([]:List zm)=[]\/0 < R - A:=.inl rfl;clear HQd HOp;go_wp2_with fail
    refine (z36 1 (R - A) w2).mono ?_;rintro e w9 ⟨rfl,hw9⟩;obtain rfl:w2=w9:=hw9.symm;by_cases hto:(n:Int) < (f:Int)+max 1 (R - A)
    ·exact absurd hto (by omega)
    ·obtain ⟨k,hk⟩:∃ k:Nat,(k:Int)=max 1 (R - A):=⟨(max 1 (R - A)).toNat,by omega⟩;have hwk:IntKind.i64.wrap ((f:Int)+(k:Int))=(f:Int)+(k:Int):=(by rw [IntKind.wrap_i64];omega);rw [<-hk] at hto |-;have hO:=HOg.out;unfold zx at hO;have HA:=O (λ(v':Value) (w4:World) (o:Obj) (hg:(w2.alloc o).grownBy w4 (Value.slice ag 0 cg).ownBlock) (ho:zx w4 P v' ([] ++ [⟨r,(f:Int),((f:Int)+(k:Int))⟩]))=>HQa.out v' w4 o k ((f:Int)+(k:Int)) hg ho (by omega) (by omega) (by omega) (by omega) (by omega) hpush);have hkn:1<=k:=(by omega);clear HQa hk;go_wp2_with (at_builtin;refine wpList_append_own _ rfl _ _ 41 rfl P 45 i0 _ 3 24 underlying41 hi0 hz0 hz1 hz2 rfl (by decide) _ _ _ rfl (hO.alloc _) ⟨w2.heap.size,0,none⟩ 1 1 (z0C ⟨r,(f:Int),((f:Int)+(k:Int))⟩) rfl rfl ?c1 ?c2 ?c3 ?c4 ?c5 ?_)
     case c1=>exact z0N (zk w2 _)
     case c2=>simp [z0C,Value.oneCell']
     case c3=>unfold maxLen;simp only [List.length_nil];omega
     case c4=>simp only [List.length_nil];omega
     case c5=>simp;omega
     intro v' w4 hown' hgrow' _;have HN:=O (HA.out v' w4 _ hgrow' (zx.next hown'));obtain ⟨g',cap',rfl⟩:=Joins.ownsRow_form hown' (by omega);clear hown' hgrow' hO HA HOg;go_wp2;go_roundw
     case rel=>exact ⟨f+k,us,pgs,_,P,by go_num,HN⟩
     case measure=>simp [intOf,zaJ];omega
   ·have hpos:(0:Int) < (page.length:Int):=(by have:=List.length_pos_iff.2 he;omega);have hO:=HOp.out;go_wp2_with (at_builtin;refine wpList_append_own _ rfl _ _ 30 rfl B 41 j0 _ 1 24 underlying30 hj0 hy0 hy1 hy2 rfl (by decide) _ _ _ rfl (hO.alloc _) ⟨w2.heap.size,0,none⟩ 1 1 [.slice ag page.length cg] rfl rfl ?c1 ?c2 ?c3 ?c4 ?c5 ?_)
    case c1=>exact z0N (zk w2 (.cells #[.slice ag page.length cg] 41))
    case c2=>simp [Value.oneCell']
    case c3=>unfold maxLen;omega
    case c4=>omega
    case c5=>simp;omega
    intro v' w4 hown' hgrow' _;have HN:=O (HQd.out v' w4 _ hgrow' hown' he hfree);have hpn:=List.length_pos_iff.2 he;obtain ⟨g',cap',rfl⟩:=Joins.ownsRow_form hown' (by omega);clear hown' hgrow' hO HQd HQa HOp HOg;go_wp2;go_roundw
    case rel=>exact ⟨f,_,_,_,_,rfl,HN⟩
    case measure=>simp [intOf,zaJ];omega
  ·have hpush:page=[]\/0 < R - A:=.inr (by omega);clear HQd HOp;go_wp2_with fail
   refine (z36 1 (R - A) w2).mono ?_;rintro e w9 ⟨rfl,hw9⟩;obtain rfl:w2=w9:=hw9.symm;by_cases hto:(n:Int) < (f:Int)+max 1 (R - A)
   ·obtain ⟨k,hk⟩:∃ k:Nat,k=n - f:=⟨_,rfl⟩;have hO:=HOg.out;unfold zx at hO;have HA:=O (λ(v':Value) (w4:World) (o:Obj) (hg:(w2.alloc o).grownBy w4 (Value.slice ag page.length cg).ownBlock) (ho:zx w4 P v' (page ++ [⟨r,(f:Int),(n:Int)⟩]))=>HQa.out v' w4 o k (n:Int) hg ho (by omega) (by omega) (by omega) (by omega) (by omega) hpush);have HKn:Hid ((n:Int)=((f+k:Nat):Int)):=O (by omega);have hkn:1<=k/\f+k=n:=(by omega);clear HQa hk;go_wp2_with (at_builtin;refine wpList_append_own _ rfl _ _ 41 rfl P 45 i0 _ 3 24 underlying41 hi0 hz0 hz1 hz2 rfl (by decide) _ _ _ rfl (hO.alloc _) ⟨w2.heap.size,0,none⟩ 1 1 (z0C ⟨r,(f:Int),(n:Int)⟩) rfl rfl ?c1 ?c2 ?c3 ?c4 ?c5 ?_)
    case c1=>exact z0N (zk w2 _)
    case c2=>simp [z0C,Value.oneCell']
    case c3=>unfold maxLen;omega
    case c4=>omega
    case c5=>simp;omega
    intro v' w4 hown' hgrow' _;have HN:=O (HA.out v' w4 _ hgrow' (zx.next hown'));obtain ⟨g',cap',rfl⟩:=Joins.ownsRow_form hown' (by omega);clear hown' hgrow' hO HA HOg;go_wp2;go_roundw
    case rel=>exact ⟨f+k,us,pgs,_,P,by rw [HKn.out],HN⟩
    case measure=>simp [intOf,zaJ];omega
   ·obtain ⟨k,hk⟩:∃ k:Nat,(k:Int)=max 1 (R - A):=⟨(max 1 (R - A)).toNat,by omega⟩;have hwk:IntKind.i64.wrap ((f:Int)+(k:Int))=(f:Int)+(k:Int):=(by rw [IntKind.wrap_i64];omega);rw [<-hk] at hto |-;have hO:=HOg.out;unfold zx at hO;have HA:=O (λ(v':Value) (w4:World) (o:Obj) (hg:(w2.alloc o).grownBy w4 (Value.slice ag page.length cg).ownBlock) (ho:zx w4 P v' (page ++ [⟨r,(f:Int),((f:Int)+(k:Int))⟩]))=>HQa.out v' w4 o k ((f:Int)+(k:Int)) hg ho (by omega) (by omega) (by omega) (by omega) (by omega) hpush);have hkn:1<=k:=(by omega);clear HQa hk;go_wp2_with (at_builtin;refine wpList_append_own _ rfl _ _ 41 rfl P 45 i0 _ 3 24 underlying41 hi0 hz0 hz1 hz2 rfl (by decide) _ _ _ rfl (hO.alloc _) ⟨w2.heap.size,0,none⟩ 1 1 (z0C ⟨r,(f:Int),((f:Int)+(k:Int))⟩) rfl rfl ?c1 ?c2 ?c3 ?c4 ?c5 ?_)
    case c1=>exact z0N (zk w2 _)
    case c2=>simp [z0C,Value.oneCell']
    case c3=>unfold maxLen;omega
    case c4=>omega
    case c5=>simp;omega
    intro v' w4 hown' hgrow' _;have HN:=O (HA.out v' w4 _ hgrow' (zx.next hown'));obtain ⟨g',cap',rfl⟩:=Joins.ownsRow_form hown' (by omega);clear hown' hgrow' hO HA HOg;go_wp2;go_roundw
    case rel=>exact ⟨f+k,us,pgs,_,P,by go_num,HN⟩
    case measure=>simp [intOf,zaJ];omega
theorem zdS (s:ByteArray) (hs:s.size<=maxLen) (q:Int) (hq:-9223372036854775808<=q/\q<=9223372036854775807) (w:World) :
  Calls prog 85 #[.string s,int i64 q] w λe w'=>∃ v,e=.returned v/\z1H w' w.heap.size v (zZ (z1h q (zX s)))/\Below w.heap.size w w':=by
 obtain ⟨i0,hi,hz0,hz1,hz2⟩:=info_parts zkm;have hwl:=z68 s;have HW:=O (z8q s hs);generalize zX s=l at HW hwl |-;go_enter func85,ntmps85;go_wp2_with fail
 refine (HW.out _).mono ?_;rintro e w1 ⟨v1,rfl,hv1,hb1⟩;have V1:=O hv1;have K1:=O hb1;obtain ⟨a1,c1,rfl⟩:=zag hv1;have hsz1:=hb1.size;clear hv1 hb1;go_wp2_with fail
 go_loopw [6,7] (λo i W=>∃ k:Nat,k<=l.length/\i=int i64 k/\Hid (z1H W w1.heap.size o (zZ (z1h q (l.take k))))/\Hid (Below w1.heap.size w1 W)) (λ_ i _=>l.length - (intOf i).toNat)
 case atStart=>exact ⟨0,nZ,rfl,z1H.of_owns (World.ownsRow_made w1 #[] 0 lR nZ rfl),ze bR _⟩
 case round =>
  obtain ⟨k,hk,rfl,HR,HB⟩:=hrel;by_cases hlt:k < l.length
  ·obtain ⟨g,cap',e',h1,h2,hx⟩:=zeY (z4B V1.out HB.out) hlt;simp only [Value.slice.injEq,true_and] at e';obtain ⟨rfl,rfl⟩:=e';have h3:=l[k].2;have HT:=O (zh9 (q:=q) hlt);obtain ⟨hb1,hb2⟩:=zbX q (l.take k);have hok:=O (zdl q (l.take k));have htl:(l.take k).length<=30:=(by rw [List.length_take];omega);have HN:=O (λh=>zjL (q:=q) hok.out h l[k]);have HK:=O (λh=>zh8 (q:=q) hok.out h l[k]);have HF:=O (λh=>ziG (q:=q) hok.out h l[k]);rw [<-HT.out] at HN HK HF;generalize l[k]=x at hx h3 HN HK HF;generalize hout:zZ (z1h q (l.take k))=out at HR HN HK HF hb1 hb2;clear hout HT hok;obtain ⟨ao,co,rfl⟩:=HR.out.form;unfold maxLen at h2;have hbs:=HB.out.size;by_cases hn0:out.length=0
   ·have hd:decide ((0:Int) < (out.length:Int))=false:=decide_eq_false (by omega);have HE:=O (HN.out hn0);obtain rfl:out=[]:=List.eq_nil_of_length_eq_zero hn0;clear hn0 hd HK HF HN;have hd:decide ((0:Int) < (0:Int))=false:=rfl;go_wp2_with fail
    go_quiet (fail)
    have hO:(wr.drewN nq).ownsRow w1.heap.size 9 1 (.slice ao 0 co) 0 []:=zdm HR.out;go_wp2_with (at_builtin;refine wpList_append_own _ rfl _ _ 93 rfl w1.heap.size 9 i0 (.string ⟨#[]⟩) 1 16 underlying93 hi hz0 hz1 hz2 rfl (by decide) _ _ _ rfl (hO.alloc _) ⟨wr.heap.size,0,none⟩ 1 1 [.string x.1] rfl rfl ?c1 ?c2 ?c3 ?c4 ?c5 ?_)
    case c1=>exact cell_one_new (wr.drewN nq) (.string x.1) 9
    case c2=>intro u hu;simp at hu;subst hu;rfl
    case c3=>unfold maxLen;omega
    case c4=>omega
    case c5=>simp;omega
    intro v' w2 hown' hgrow' _;have HB2:=O ((ze (z4a HB.out nq) (.cells #[.string x.1] 9)).grown hgrow' (by simp;omega) (λb hb=>(hO.lt b hb).1))
    have HR2:Hid (z1H w2 w1.heap.size v' (zZ (z1h q (l.take (k+1))))):=by
     show z1H _ _ _ _;rw [HE.out];exact z1H.of_owns hown'
    obtain ⟨g',cap',rfl⟩:=Joins.ownsRow_form hown' (by omega);clear hown' hgrow' hO HR HB;go_wp2;go_roundw
    case rel=>exact ⟨k+1,by omega,by go_num,HR2,HB2⟩
    case measure=>simp [intOf];omega
   ·obtain ⟨m,hm⟩:=Nat.exists_eq_succ_of_ne_zero hn0;obtain ⟨go,co',e',hgo,hgs,hc1,hc2,hy,hfy⟩:=HR.out.get (i:=out.length - 1) (by omega);simp only [Value.slice.injEq,true_and] at e';obtain ⟨rfl,rfl⟩:=e';have hyl:out.getD (out.length - 1) eS=z56 out:=rfl;rw [hyl] at hy;have hm1:out.length - 1=m:=(by omega);have hm2:out.length=m+1:=hm;have HR0:=O (zdm HR.out);have HRs:=O (λy=>HR.out.set (i:=out.length - 1) (by omega) y);have HKo:=O (HK.out hn0);have HFo:=O (HF.out hn0);generalize z56 out=y at hy hb2 HKo HFo;rw [hm1] at hy hfy HRs HFo;rw [hm2] at hc1 HR0 HRs;rw [hm2];unfold maxLen at hc2;have hd:decide ((0:Int) < ((m:Int)+1))=true:=decide_eq_true (by omega);by_cases hqq:q < (y.size:Int)+1+x.1.size
    ·have hdq:decide ((y.size:Int)+1+(x.1.size:Int)<=q)=false:=decide_eq_false (by omega);have HE:=O (HKo.out hqq);go_wp2_with fail
     go_quiet (fail)
     have hO:(wr.drewN nq).ownsRow w1.heap.size 9 1 (.slice (some ⟨go,0,none⟩) (m+1) co) (m+1) (out.map Value.string):=HR0.out;go_wp2_with (at_builtin;refine wpList_append_own _ rfl _ _ 93 rfl w1.heap.size 9 i0 (.string ⟨#[]⟩) 1 16 underlying93 hi hz0 hz1 hz2 rfl (by decide) _ _ _ rfl (hO.alloc _) ⟨wr.heap.size,0,none⟩ 1 1 [.string x.1] rfl rfl ?c1 ?c2 ?c3 ?c4 ?c5 ?_)
     case c1=>exact cell_one_new (wr.drewN nq) (.string x.1) 9
     case c2=>intro u hu;simp at hu;subst hu;rfl
     case c3=>unfold maxLen;omega
     case c4=>omega
     case c5=>simp;omega
     intro v' w2 hown' hgrow' _;have HB2:=O ((ze (z4a HB.out nq) (.cells #[.string x.1] 9)).grown hgrow' (by simp;omega) (λb hb=>(hO.lt b hb).1))
     have HR2:Hid (z1H w2 w1.heap.size v' (zZ (z1h q (l.take (k+1))))):=by
      show z1H _ _ _ _;rw [HE.out];exact z1H.of_owns (by rw [List.length_append,List.map_append,hm2];exact hown')
     obtain ⟨g',cap',rfl⟩:=Joins.ownsRow_form hown' (by omega);clear hown' hgrow' hO HR HB;go_wp2;go_roundw
     case rel=>exact ⟨k+1,by omega,by go_num,HR2,HB2⟩
     case measure=>simp [intOf];omega
    ·have hdq:decide ((y.size:Int)+1+(x.1.size:Int)<=q)=true:=decide_eq_true (by omega);have HE:=O (HFo.out hqq);have hz3:¬ 9223372036854775807 < y.size+1:=(by omega);have hz4:¬ 9223372036854775807 < y.size+1+x.1.size:=(by omega);go_wp2_with fail
     go_quiet (fail)
     go_wp2_with fail
     have hy':(wr.drewN nq).cell? ⟨go,m,none⟩=some (.string y):=hy;have hx':(wr.drewN nq).cell? ⟨g,k,none⟩=some (.string x.1):=hx;have hf':(wr.drewN nq).frozen? ⟨go,m,none⟩=false:=hfy;have HB1:=O (z4a HB.out nq);have HR1:Hid (∀ y,z1H ((wr.drewN nq).setCell ⟨go,m,none⟩ (.string y)) w1.heap.size (.slice (some ⟨go,0,none⟩) (m+1) co) (out.set m y)):=HRs;clear hy hx hfy HR HRs HR0 HN HK HF HKo HFo HB;generalize wr.drewN nq=W1 at hy' hx' hf' HB1 HR1 |-
     go_region
     all_goals
      go_wp2;go_roundw
      case rel=>exact ⟨k+1,by omega,by go_num,by rw [HE.out];exact HR1.out _,Below.drew ((HB1.out).setCell (p:=⟨go,m,none⟩) hgo _)⟩
      case measure=>simp [intOf];omega
  ·obtain rfl:k=l.length:=by omega
   rw [List.take_length] at HR;obtain ⟨ao,co,rfl⟩:=HR.out.form;go_wp2;go_ret;exact ⟨_,rfl,HR.out.base hsz1,zi K1.out HB.out⟩
theorem ze2 (R C:Int) (ac:Option Addr) (n cc:Nat) (w:World) :
  Calls prog 108 #[.agg #[int i64 R,int i64 C,.slice ac n cc]] w λe w'=>e=.returned (.bool (z1U R C n))/\Below w.heap.size w w':=by
 cases h1:zM R 1 8 with
 | false =>
  have HE:Hid (z1U R C n=false):=(by simp only [z1U,h1,Bool.false_and];exact trivial);have K1:=O (zJ R 1 8);rw [h1] at K1;go_enter func108,ntmps108;go_wp2_with fail
  refine (K1.out _).mono ?_;rintro e w1 ⟨rfl,rfl⟩;go_wp2;go_ret;exact ⟨zQ HE.out.symm,ze bR _⟩
 | true =>
  cases h2:zM C 1 94 with
  | false =>
   have HE:Hid (z1U R C n=false):=(by simp only [z1U,h2,Bool.false_and,Bool.and_false];exact trivial);have K1:=O (zJ R 1 8);have K2:=O (zJ C 1 94);rw [h1] at K1;rw [h2] at K2;go_enter func108,ntmps108;go_wp2_with fail
   refine (K1.out _).mono ?_;rintro e w1 ⟨rfl,rfl⟩;go_wp2_with fail
   refine (K2.out _).mono ?_;rintro e w1 ⟨rfl,rfl⟩;go_wp2;go_ret;exact ⟨zQ HE.out.symm,ze bR _⟩
  | true =>
   have HE:Hid (z1U R C n=decide ((n:Int)<=40)):=by
    show z1U R C n=_;simp only [z1U,h1,h2,Bool.true_and];exact decide_eq_decide.2 (by omega)
   have K1:=O (zJ R 1 8);have K2:=O (zJ C 1 94);rw [h1] at K1;rw [h2] at K2;go_enter func108,ntmps108;go_wp2_with fail
   refine (K1.out _).mono ?_;rintro e w1 ⟨rfl,rfl⟩;go_wp2_with fail
   refine (K2.out _).mono ?_;rintro e w1 ⟨rfl,rfl⟩;go_wp2;go_ret;exact ⟨zQ HE.out.symm,ze bR _⟩
theorem ze3 (R C:Int) (v:Value) (x:GC) (hx:GOk x) (hR:1<=R/\R<=8) (hC:1<=C/\C<=94) (w:World) :
  Calls prog 109 #[.agg #[int i64 R,int i64 C,v],.agg #[int i64 x.row,int i64 x.col,int i64 x.rows,int i64 x.cols,int i64 x.ins]] w λe w'=>e=.returned (.bool (z0j R C x))/\Below w.heap.size w w':=by
 obtain ⟨b0,b1,b2,b3,b4⟩:=hx;unfold I64 at b0 b1 b2 b3 b4;have K1:=O (zJ x.row 0 (R - 1));have K2:=O (zJ x.rows 1 (R - x.row));have K3:=O (zJ x.col 0 (C - 1));have K4:=O (zJ x.cols 1 (C - x.col));have K5:=O (zJ x.ins 0 4);have p1:IntKind.i64.wrap (R - 1)=R - 1:=(by rw [IntKind.wrap_i64];omega);have p3:IntKind.i64.wrap (C - 1)=C - 1:=(by rw [IntKind.wrap_i64];omega)
 cases h1:zM x.row 0 (R - 1) with
 | false =>
  rw [h1] at K1
  have HE:Hid (z0j R C x=false):=by
   show z0j R C x=false;simp only [z0j,h1,Bool.false_and]
  go_enter func109,ntmps109;go_wp2_with fail
  refine (K1.out _).mono ?_;rintro e w1 ⟨rfl,rfl⟩;go_wp2;go_ret;exact ⟨zQ HE.out.symm,ze (ze bR _) _⟩
 | true =>
  rw [h1] at K1
  have p2:IntKind.i64.wrap (R - x.row)=R - x.row:=by
   have:=of_decide_eq_true h1;rw [IntKind.wrap_i64];omega
  cases h2:zM x.rows 1 (R - x.row) with
  | false =>
   rw [h2] at K2
   have HE:Hid (z0j R C x=false):=by
    show z0j R C x=false;simp only [z0j,h2,Bool.false_and,Bool.and_false]
   go_enter func109,ntmps109;go_wp2_with fail
   refine (K1.out _).mono ?_;rintro e w1 ⟨rfl,rfl⟩;go_wp2_with fail
   refine (K2.out _).mono ?_;rintro e w1 ⟨rfl,rfl⟩;go_wp2;go_ret;exact ⟨zQ HE.out.symm,ze (ze bR _) _⟩
  | true =>
   rw [h2] at K2
   cases h3:zM x.col 0 (C - 1) with
   | false =>
    rw [h3] at K3
    have HE:Hid (z0j R C x=false):=by
     show z0j R C x=false;simp only [z0j,h3,Bool.false_and,Bool.and_false]
    go_enter func109,ntmps109;go_wp2_with fail
    refine (K1.out _).mono ?_;rintro e w1 ⟨rfl,rfl⟩;go_wp2_with fail
    refine (K2.out _).mono ?_;rintro e w1 ⟨rfl,rfl⟩;go_wp2_with fail
    refine (K3.out _).mono ?_;rintro e w1 ⟨rfl,rfl⟩;go_wp2;go_ret;exact ⟨zQ HE.out.symm,ze (ze bR _) _⟩
   | true =>
    rw [h3] at K3
    have p4:IntKind.i64.wrap (C - x.col)=C - x.col:=by
     have:=of_decide_eq_true h3;rw [IntKind.wrap_i64];omega
    cases h4:zM x.cols 1 (C - x.col) with
    | false =>
     rw [h4] at K4
     have HE:Hid (z0j R C x=false):=by
      show z0j R C x=false;simp only [z0j,h4,Bool.false_and,Bool.and_false]
     go_enter func109,ntmps109;go_wp2_with fail
     refine (K1.out _).mono ?_;rintro e w1 ⟨rfl,rfl⟩;go_wp2_with fail
     refine (K2.out _).mono ?_;rintro e w1 ⟨rfl,rfl⟩;go_wp2_with fail
     refine (K3.out _).mono ?_;rintro e w1 ⟨rfl,rfl⟩;go_wp2_with fail
     refine (K4.out _).mono ?_;rintro e w1 ⟨rfl,rfl⟩;go_wp2;go_ret;exact ⟨zQ HE.out.symm,ze (ze bR _) _⟩
    | true =>
     rw [h4] at K4
     cases h5:zM x.ins 0 4 with
     | false =>
      rw [h5] at K5
      have HE:Hid (z0j R C x=false):=by
       show z0j R C x=false;simp only [z0j,h5,Bool.and_false]
      go_enter func109,ntmps109;go_wp2_with fail
      refine (K1.out _).mono ?_;rintro e w1 ⟨rfl,rfl⟩;go_wp2_with fail
      refine (K2.out _).mono ?_;rintro e w1 ⟨rfl,rfl⟩;go_wp2_with fail
      refine (K3.out _).mono ?_;rintro e w1 ⟨rfl,rfl⟩;go_wp2_with fail
      refine (K4.out _).mono ?_;rintro e w1 ⟨rfl,rfl⟩;go_wp2_with fail
      refine (K5.out _).mono ?_;rintro e w1 ⟨rfl,rfl⟩;go_wp2;go_ret;exact ⟨zQ HE.out.symm,ze (ze bR _) _⟩
     | true =>
      rw [h5] at K5
      have HE:Hid (z0j R C x=true):=by
       show z0j R C x=true;simp only [z0j,h1,h2,h3,h4,h5,Bool.and_self]
      go_enter func109,ntmps109;go_wp2_with fail
      refine (K1.out _).mono ?_;rintro e w1 ⟨rfl,rfl⟩;go_wp2_with fail
      refine (K2.out _).mono ?_;rintro e w1 ⟨rfl,rfl⟩;go_wp2_with fail
      refine (K3.out _).mono ?_;rintro e w1 ⟨rfl,rfl⟩;go_wp2_with fail
      refine (K4.out _).mono ?_;rintro e w1 ⟨rfl,rfl⟩;go_wp2_with fail
      refine (K5.out _).mono ?_;rintro e w1 ⟨rfl,rfl⟩;go_wp2;go_ret;exact ⟨zQ HE.out.symm,ze (ze bR _) _⟩
def zkE (g:G) (w:World) (e:Ending) (w':World):Prop :=
 (okB g=false/\e=.returned (.tuple #[.map none,.bool false]))\/(okB g=true/\∃ B,w.heap.size<=B/\e=.returned (.tuple #[.map (some B),.bool true])/\z0n w' B (z0o g.cells))
theorem ze4 (R C:Int) (ac:Option Addr) (cc:Nat) (gs:List GC) (w:World) {z:Nat} (h:z1v w z (.slice ac gs.length cc) gs) :
  Calls prog 76 #[.agg #[int i64 R,int i64 C,.slice ac gs.length cc]] w λe w'=>zkE ⟨R,C,gs⟩ w e w'/\Below w.heap.size w w':=by
 obtain ⟨_,_,_,hlen⟩:=At.form h;unfold maxLen at hlen;have H:=O h;clear h;have hmm:=@run_makeMap prog;have KB:=O (ze2 R C ac gs.length cc)
 cases hb:z1U R C gs.length with
 | false =>
  rw [hb] at KB;have HF:Hid (okB ⟨R,C,gs⟩=false):=z5Z hb;go_enter func76,ntmps76;go_wp2_with fail
  refine (KB.out _).mono ?_;rintro e w1 ⟨rfl,hb1⟩;have K1:=O (zi (ze (Below.refl w.heap.size w) (.cells #[int i64 R,int i64 C,.slice ac gs.length cc] 38)) hb1);clear hb1;go_wp2;refine bodyPost_ret (results_tmp2 rfl _ _ _) rfl ?_;exact ⟨.inl ⟨HF.out,rfl⟩,K1.out⟩
 | true =>
  rw [hb] at KB;obtain ⟨hR1,hR2,hC1,hC2,hn⟩:=z6G hb;have HBB:=O hb;clear hb;go_enter func76,ntmps76;go_wp2_with fail
  refine (KB.out _).mono ?_;rintro e w1 ⟨rfl,hb1⟩;have K1:=O (zi (ze (Below.refl w.heap.size w) (.cells #[int i64 R,int i64 C,.slice ac gs.length cc] 38)) hb1);have X1:=O ((hb1.block w.heap.size (by simp)).trans (zk _ _));have hs1:w.heap.size < w1.heap.size:=(by have:=hb1.size;simp at this;omega);clear hb1;have g2:w1.cell? ⟨w.heap.size,2,none⟩=some (.slice ac gs.length cc):=zf X1.out;go_wp2_with fail
  have hBz:w.heap.size ≠ w1.heap.size:=(by omega);go_loopw [14] (λi W=>∃ k:Nat,k<=gs.length/\i=int i64 k/\Hid (z5l R C gs k=true)/\Hid (z0n W w1.heap.size (z0o (gs.take k)))/\Hid (Below w.heap.size w W)/\Hid (W.heap[w.heap.size]?=some (.cells #[int i64 R,int i64 C,.slice ac gs.length cc] 38))) (λi _=>gs.length - (intOf i).toNat)
  case atStart=>exact ⟨0,nZ,rfl,zbo _ _ _,z0n.new w1,ze K1.out _,(bA hs1).trans X1.out⟩
  case round =>
   obtain ⟨k,hk,rfl,HO,HT,HB,HX⟩:=hrel;have g0:wr.cell? ⟨w.heap.size,0,none⟩=some (int i64 R):=zf HX.out;have g1:wr.cell? ⟨w.heap.size,1,none⟩=some (int i64 C):=zf HX.out;have g2':wr.cell? ⟨w.heap.size,2,none⟩=some (.slice ac gs.length cc):=zf HX.out;have hzr:w.heap.size < wr.heap.size:=(bL HX.out);by_cases hlt:k < gs.length
   ·obtain ⟨q,off,cap',e',hc1,hc2,hbl,hx,hs⟩:=At.get (H.out.kept HB.out) hlt;simp only [Value.slice.injEq,true_and] at e';obtain ⟨rfl,rfl⟩:=e';have HN:Hid (z0j R C (gs.getD k dG)=true->z11 (gs.take k) (gs.getD k dG)=true->z5l R C gs (k+1)=true):=λh1 h2=>zbp HO.out h1 h2;have HF:Hid ((z0j R C (gs.getD k dG) && z11 (gs.take k) (gs.getD k dG))=false->okB ⟨R,C,gs⟩=false):=λh1=>z9X (z9W hlt h1);have HE:Hid (z0j R C (gs.getD k dG)=true->z5M (z0o (gs.take k)) (gs.getD k dG).row.toNat (gs.getD k dG).col.toNat (gs.getD k dG).rows.toNat (gs.getD k dG).cols.toNat=z11 (gs.take k) (gs.getD k dG)):=λh1=>zeI (z5N (Nat.le_of_lt hlt) HO.out) h1 hR2 hC2
    have HS:Hid (z0o (gs.take (k+1))=z0o (gs.take k) ++ (z3Q (gs.getD k dG)).map (·.1)):=by
     show z0o (gs.take (k+1))=_;rw [<-z86,List.take_succ_eq_append_getElem hlt];simp [List.getD,hlt]
    have HLn:Hid ((z0o (gs.take k)).length<=40 * 752):=by
     have:=z6Z hR2 hC2 (gs.take k) (z5N (Nat.le_of_lt hlt) HO.out);rw [List.length_take] at this;show (z0o (gs.take k)).length<=40 * 752;omega
    have KF:=O (ze3 R C (.slice (some ⟨q,off,none⟩) gs.length cc) (gs.getD k dG) hs ⟨hR1,hR2⟩ ⟨hC1,hC2⟩);generalize gs.getD k dG=x at hx HN HF HE HS KF;obtain ⟨x0,x1,x2,x3,x4⟩:=hx;unfold maxLen at hc2;clear hs
    cases h1:z0j R C x with
    | false =>
     have HF':=O (HF.out (by simp only [h1,Bool.false_and]));rw [h1] at KF;clear HN HF HE HS HO h1;go_wp2_with fail
     refine (KF.out _).mono ?_;rintro e w3 ⟨rfl,hb3⟩;have HB3:=O (zi (ze HB.out _) hb3);clear hb3;go_wp2;refine bodyPost_ret (results_tmp2 rfl _ _ _) rfl ?_;exact ⟨.inl ⟨HF'.out,rfl⟩,HB3.out⟩
    | true =>
     have KA:=O (λ(W:World) (B:Nat)=>zcQ (x:=x) h1 hR2 hC2 W B (z0o (gs.take k)));have KT:=O (zj8 (x:=x) h1 hR2 hC2);rw [HE.out h1] at KA;rw [h1] at KF;go_wp2_with fail
     refine (KF.out _).mono ?_;rintro e w3 ⟨rfl,hb3⟩;have HB3:=O (zi (ze HB.out _) hb3);have HX3:=O ((hb3.block w.heap.size (by simp;omega)).trans ((bA hzr).trans HX.out));have HY3:=O ((hb3.block wr.heap.size (by simp)).trans (zk _ _));have hzt:=HT.out.lt;have HT3:Hid (z0n w3 w1.heap.size (z0o (gs.take k))):=HT.out.of_block ((hb3.block _ (by simp;omega)).trans (bA hzt));have y0:w3.cell? ⟨wr.heap.size,0,none⟩=some (int i64 x.row):=zf HY3.out;have y1:w3.cell? ⟨wr.heap.size,1,none⟩=some (int i64 x.col):=zf HY3.out;have y2:w3.cell? ⟨wr.heap.size,2,none⟩=some (int i64 x.rows):=zf HY3.out;have y3:w3.cell? ⟨wr.heap.size,3,none⟩=some (int i64 x.cols):=zf HY3.out;have y4:w3.cell? ⟨wr.heap.size,4,none⟩=some (int i64 x.ins):=zf HY3.out;clear hb3
     cases h2:z11 (gs.take k) x with
     | false =>
      have HF':=O (HF.out (by simp only [h2,Bool.and_false]));rw [h2] at KA;clear HN HF HE HS HO h2 h1;go_wp2_with fail
      refine (KA.out _ _ HT3.out).mono ?_;rintro e w4 ⟨rfl,hb4⟩;have HB4:=O (zi HB3.out hb4);clear hb4;go_wp2;refine bodyPost_ret (results_tmp2 rfl _ _ _) rfl ?_;exact ⟨.inl ⟨HF'.out,rfl⟩,HB4.out⟩
     | true =>
      have HN':=O (HN.out h1 h2);rw [h2] at KA;clear HN HF HE HO h2 h1;go_wp2_with fail
      refine (KA.out _ _ HT3.out).mono ?_;rintro e w4 ⟨rfl,hb4⟩;have HB4:=O (zi HB3.out hb4);have hz3:w.heap.size < w3.heap.size:=(bL HX3.out);have HX4:=O ((hb4.block w.heap.size hz3).trans HX3.out);have hy3:wr.heap.size < w3.heap.size:=(bL HY3.out);have HY4:=O ((hb4.block wr.heap.size hy3).trans HY3.out);have HT4:Hid (z0n w4 w1.heap.size (z0o (gs.take k))):=HT3.out.of_block (hb4.block _ HT3.out.lt);have z0:w4.cell? ⟨wr.heap.size,0,none⟩=some (int i64 x.row):=zf HY4.out;have z1:w4.cell? ⟨wr.heap.size,1,none⟩=some (int i64 x.col):=zf HY4.out;have z2:w4.cell? ⟨wr.heap.size,2,none⟩=some (int i64 x.rows):=zf HY4.out;have z3:w4.cell? ⟨wr.heap.size,3,none⟩=some (int i64 x.cols):=zf HY4.out;have z4:w4.cell? ⟨wr.heap.size,4,none⟩=some (int i64 x.ins):=zf HY4.out;clear hb4 y0 y1 y2 y3 y4;go_wp2_with fail
      refine (KT.out _ _ _ HT4.out HLn.out).mono ?_;rintro e w5 ⟨⟨vt,rfl⟩,hT5,hg5⟩;have HT5:=O hT5;have HB5:Hid (Below w.heap.size w w5):=HB4.out.grown hg5 HB4.out.size (λj e=>by cases e;omega);have hz4:w.heap.size < w4.heap.size:=(bL HX4.out);have HX5:Hid (w5.heap[w.heap.size]?=_):=O ((hg5.block w.heap.size hz4 (by simp;omega)).trans HX4.out);clear hT5 hg5;go_wp2;go_roundw
      case rel=>exact ⟨k+1,by omega,by go_num,HN',by rw [HS.out];exact HT5.out,HB5,HX5⟩
      case measure=>simp [intOf];omega
   ·obtain rfl:k=gs.length:=by omega
    have HF:Hid (okB ⟨R,C,gs⟩=true):=by
     show okB _=true;simp only [okB,HBB.out,HO.out,Bool.and_self]
    clear HO;go_wp2;refine bodyPost_ret (results_tmp2 rfl _ _ _) rfl ?_;exact ⟨.inr ⟨HF.out,w1.heap.size,by omega,rfl,by have:=HT.out;rwa [List.take_length] at this⟩,HB.out⟩
theorem zhW (R C:Int) (ac:Option Addr) (cc:Nat) (gs:List GC) (w:World) {z:Nat} (h:z1v w z (.slice ac gs.length cc) gs) :
  Calls prog 41 #[.agg #[int i64 R,int i64 C,.slice ac gs.length cc]] w λe w'=>e=.returned (.bool (okB ⟨R,C,gs⟩))/\Below w.heap.size w w':=by
 have K0:=O (ze (Below.refl w.heap.size w) (.cells #[int i64 R,int i64 C,.slice ac gs.length cc] 38));have H:=O (h.kept K0.out);clear h;go_enter func41,ntmps41;go_wp2_with fail
 refine (ze4 R C ac cc gs _ H.out).mono ?_;rintro e w1 ⟨ho,hb1⟩;have K1:=O (zi K0.out hb1);clear hb1
 rcases ho with ⟨h1,rfl⟩ | ⟨h1,B,_,rfl,_⟩
 ·have HF:=O h1;clear h1;go_wp2;go_ret;exact ⟨zQ HF.out.symm,K1.out⟩
 ·have HF:=O h1;clear h1;go_wp2;go_ret;exact ⟨zQ HF.out.symm,K1.out⟩
theorem zct (R C:Int) (ac:Option Addr) (cc:Nat) (gs:List GC) (w:World) {z:Nat} (h:z1v w z (.slice ac gs.length cc) gs) :
  Calls prog 16 #[.agg #[int i64 R,int i64 C,.slice ac gs.length cc]] w λe w'=>∃ v,e=.returned v/\zt w' w.heap.size w'.heap.size v (z4d ⟨R,C,gs⟩)/\Below w.heap.size w w':=by
 have K0:=O (ze (Below.refl w.heap.size w) (.cells #[int i64 R,int i64 C,.slice ac gs.length cc] 38));have H:=O h;clear h;have KO:=O (zhW R C ac cc gs _ (H.out.kept K0.out))
 cases ho:okB ⟨R,C,gs⟩ with
 | false =>
  have HF:=O (z9Z ho);rw [ho] at KO;clear ho;go_enter func16,ntmps16;go_wp2_with fail
  refine KO.out.mono ?_;rintro e w1 ⟨rfl,hb1⟩;have K1:=O (zi K0.out hb1);clear hb1;go_wp2;go_ret;exact ⟨_,rfl,.inl ⟨rfl,HF.out⟩,K1.out⟩
 | true =>
  have HF:=O (z61 ho);rw [ho] at KO;have ho2:=ho;simp only [okB,Bool.and_eq_true] at ho2;obtain ⟨hR1,hR2,hC1,hC2,hn⟩:=z6G ho2.1;have HFit:=O (z5N lR ho2.2);rw [List.take_length] at HFit;have HC:=O (λrow=>zcH HFit.out row);obtain ⟨Rn,rfl⟩:∃ Rn:Nat,R=Rn:=⟨R.toNat,by omega⟩;have hRn:Rn<=1000:=(by omega);clear ho ho2 hR1 hR2 hC1 hC2 hn;go_enter func16,ntmps16;go_wp2_with fail
  refine KO.out.mono ?_;rintro e w1 ⟨rfl,hb1⟩;have K1:=O (zi K0.out hb1);have X1:=(hb1.block w.heap.size (by simp)).trans (zk _ _);have g0:w1.cell? ⟨w.heap.size,0,none⟩=some (int i64 (Rn:Int)):=zf X1;have g1:w1.cell? ⟨w.heap.size,1,none⟩=some (int i64 C):=zf X1;have g2:w1.cell? ⟨w.heap.size,2,none⟩=some (.slice ac gs.length cc):=zf X1;have KB:=O (z88 Rn hRn C ac cc gs HC.out w1 (H.out.kept K1.out));clear hb1 X1 KO;go_wp2_with fail
  refine KB.out.mono ?_;rintro e w2 ⟨v,rfl,hv,hb2⟩;have K2:=O (zi K1.out hb2);have HV:=O hv;clear hb2 hv KB
  rcases HV.out with ⟨rfl,_⟩ | ⟨g,cap,cur,rfl,_⟩
  ·go_wp2;go_ret;exact ⟨_,rfl,by rw [HF.out];exact HV.out.base K1.out.size lR,K2.out⟩
  ·go_wp2;go_ret;exact ⟨_,rfl,by rw [HF.out];exact HV.out.base K1.out.size lR,K2.out⟩
end
end Go.Proofs.YtggmjiddadjilahGreat
