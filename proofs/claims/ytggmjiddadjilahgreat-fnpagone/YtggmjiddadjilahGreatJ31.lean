/-
  PROVED HERE: what the model's GrdBlocks answers at a grid that lies in memory, and that its answer owns its memory; nothing that was in memory is turned. Also: 2 more texts of the same proof.
-/
import Derived.Test.YtggmjiddadjilahGreatJ30
import Derived.Test.YtggmjiddadjilahGreatJ22
set_option maxRecDepth 1000000
set_option maxHeartbeats 40000000
open Go.Proofs.Tryz
namespace Go.Proofs.YtggmjiddadjilahGreat
open Value (int)
open IntKind (i64)
section
open Go.RowKit Go.BigFrame
theorem zfG (gs:List GC) (row:Int) (k:Nat) (hk:k < gs.length):(!(gs.take (k+1)).any (z2a row))=((!(gs.take k).any (z2a row)) && !z2a row (gs.getD k dG)):=by
 rw [List.take_succ_eq_append_getElem hk,List.any_append];simp [List.getD,hk]
theorem zcg (R C:Int) (ac:Option Addr) (cc:Nat) (gs:List GC) (w:World) {z:Nat} (h:z1K w z (.slice ac gs.length cc) gs) :
  Calls prog 96 #[.agg #[int i64 R,int i64 C,.slice ac gs.length cc]] w λe w'=>∃ v,e=.returned v/\zq w' w.heap.size w'.heap.size v (z6a ⟨R,C,gs⟩)/\Below w.heap.size w w':=by
 obtain ⟨_,_,_,hlen⟩:=At.form h;unfold maxLen at hlen;obtain ⟨i0,hi,hz0,hz1,hz2⟩:=info_parts z9T;have K0:=O (ze (ze (Below.refl w.heap.size w) (.cells #[int i64 R,int i64 C,.slice ac gs.length cc] 38)) (.cells #[] 3));have H:=O h;clear h;have KO:=O (zhx R C ac cc gs _ (H.out.kept K0.out))
 cases ho:okB ⟨R,C,gs⟩ with
 | false =>
  have HF:=O (zf6 ho);rw [ho] at KO;clear ho;go_enter func96,ntmps96;go_wp2_with fail
  refine KO.out.mono ?_;rintro e w1 ⟨rfl,hb1⟩;have K1:=O (zi K0.out hb1);have E1:Hid (w1.heap[w.heap.size+1]?=some (.cells #[] 3)):=O ((hb1.block (w.heap.size+1) (by simp)).trans (by have:=zj (w.alloc (.cells #[int i64 R,int i64 C,.slice ac gs.length cc] 38)) (.cells #[] 3);rwa [World.size_alloc] at this));clear hb1;go_wp2;go_ret;refine ⟨_,rfl,?_,K1.out⟩;rw [HF.out];refine .inr ⟨w.heap.size+1,0,#[],rfl,by omega,(bL E1.out),E1.out,lR,nZ,rfl,λi hi=>absurd hi (Nat.not_lt_zero _)⟩
 | true =>
  have HF:=O (z9S ho);rw [ho] at KO;have ho2:=ho;simp only [okB,Bool.and_eq_true] at ho2;obtain ⟨hR1,hR2,hC1,hC2,hn⟩:=zbg ho2.1;have HFit:=O (zbi lR ho2.2);rw [List.take_length] at HFit;obtain ⟨Rn,rfl⟩:∃ Rn:Nat,R=Rn:=⟨R.toNat,by omega⟩;clear ho ho2;go_enter func96,ntmps96;go_wp2_with fail
  refine KO.out.mono ?_;rintro e w1 ⟨rfl,hb1⟩;have K1:=O (zi K0.out hb1);have X1:=O ((hb1.block w.heap.size (by simp;omega)).trans ((bA (by simp)).trans (zj _ _)));have E1:Hid (w1.heap[w.heap.size+1]?=some (.cells #[] 3)):=O ((hb1.block (w.heap.size+1) (by simp)).trans (by have:=zj (w.alloc (.cells #[int i64 (Rn:Int),int i64 C,.slice ac gs.length cc] 38)) (.cells #[] 3);rwa [World.size_alloc] at this));have hs1:w.heap.size+2<=w1.heap.size:=(by have:=hb1.size;simp at this;omega)
  have HO1:Hid (w1.ownsRow (w.heap.size+1) 3 1 (.slice (some ⟨w.heap.size+1,0,none⟩) 0 0) (zQ gs 0).length ((zQ gs 0).map (Value.int .i64))) :=
   ⟨by simp,.inr ⟨w.heap.size+1,0,#[],rfl,lR,E1.out,lR,nZ,rfl,rfl⟩⟩
  clear hb1;go_wp2_with fail
  go_loopw [4,3] (λi v W=>∃ (k:Nat) (vb:Value),k<=Rn/\i=int i64 k/\v=vb/\Hid (W.ownsRow (w.heap.size+1) 3 1 vb (zQ gs k).length ((zQ gs k).map (Value.int .i64)))/\Hid (Below w.heap.size w W)/\Hid (W.heap[w.heap.size]?=some (.cells #[int i64 (Rn:Int),int i64 C,.slice ac gs.length cc] 38))/\w.heap.size+2<=W.heap.size) (λi _ _=>Rn - (intOf i).toNat)
  case atStart=>exact ⟨0,_,nZ,rfl,rfl,HO1,K1,X1,hs1⟩
  case round =>
   obtain ⟨k,vb,hk,rfl,rfl,HO,HB,HX,hsr⟩:=hrel;have g0:wr.cell? ⟨w.heap.size,0,none⟩=some (int i64 (Rn:Int)):=zf HX.out;by_cases hlt:k < Rn
   ·have hbl:=z3e gs k;go_wp2_with fail
    go_loopw [6,5] (λi f W=>∃ (j n:Nat),j<=gs.length/\i=int i64 j/\f=.bool (!(gs.take j).any (z2a (k:Int)))/\W=wr.drewN n) (λi _ _=>gs.length - (intOf i).toNat)
    case atStart=>exact ⟨0,0,nZ,rfl,rfl,rfl⟩
    case round =>
     obtain ⟨j,nd,hj,rfl,rfl,rfl⟩:=hrel;have g2:wr.cell? ⟨w.heap.size,2,none⟩=some (.slice ac gs.length cc):=zf HX.out;by_cases hlj:j < gs.length
     ·have hlj':(j:Int) < (gs.length:Int):=(by omega);have h0':(0:Int)<=(j:Int):=(by omega);obtain ⟨q,off,cap',e',hc1,hc2,hbq,hx,hs⟩:=At.get (H.out.kept HB.out) hlj;simp only [Value.slice.injEq,true_and] at e';obtain ⟨rfl,rfl⟩:=e';have HS:=O (zfG gs (k:Int) j hlj);have hfit:z18 (Rn:Int) C (gs.getD j dG)=true:=HFit.out _ (by simp [List.getD,hlj]);obtain ⟨e1,e2,e3,e4,f1,f2,f3,f4⟩:=z4d hfit;generalize gs.getD j dG=x at *;generalize (!(gs.take j).any (z2a (k:Int)))=fb at *;obtain ⟨x0,x1,x2,x3,x4⟩:=hx;unfold maxLen at hc2;have b0:0<=x.row/\x.row<=8/\0<=x.rows/\x.rows<=8:=(by omega);clear hs hfit e1 e2 e3 e4 f1 f2 f3 f4
      cases fb with
      | false =>
       have HS':Hid ((!(gs.take (j+1)).any (z2a (k:Int)))=false):=(by show (!(gs.take (j+1)).any (z2a (k:Int)))=false;rw [HS.out];rfl);clear HS;go_wp2_with fail
       go_quiet (fail)
       go_wp2;go_roundw
       case rel=>exact ⟨j+1,nd+nq,by omega,by go_num,by rw [HS'.out],rfl⟩
       case measure=>simp [intOf];omega
      | true =>
       by_cases h1:x.row < (k:Int)
       ·have d1:decide (x.row < (k:Int))=true:=decide_eq_true h1;by_cases h2:(k:Int) < x.row+x.rows
        ·have d2:decide ((k:Int) < x.row+x.rows)=true:=decide_eq_true h2;have HS':Hid ((!(gs.take (j+1)).any (z2a (k:Int)))=false):=(by show (!(gs.take (j+1)).any (z2a (k:Int)))=false;rw [HS.out];simp only [z2a,d1,d2];rfl);clear HS;go_wp2_with fail
         go_quiet (fail)
         go_wp2;go_roundw
         case rel=>exact ⟨j+1,nd+nq,by omega,by go_num,by rw [HS'.out],rfl⟩
         case measure=>simp [intOf];omega
        ·have d2:decide ((k:Int) < x.row+x.rows)=false:=decide_eq_false h2;have HS':Hid ((!(gs.take (j+1)).any (z2a (k:Int)))=true):=(by show (!(gs.take (j+1)).any (z2a (k:Int)))=true;rw [HS.out];simp only [z2a,d1,d2];rfl);clear HS;go_wp2_with fail
         go_quiet (fail)
         go_wp2;go_roundw
         case rel=>exact ⟨j+1,nd+nq,by omega,by go_num,by rw [HS'.out],rfl⟩
         case measure=>simp [intOf];omega
       ·have d1:decide (x.row < (k:Int))=false:=decide_eq_false h1;have HS':Hid ((!(gs.take (j+1)).any (z2a (k:Int)))=true):=(by show (!(gs.take (j+1)).any (z2a (k:Int)))=true;rw [HS.out];simp only [z2a,d1];rfl);clear HS;go_wp2_with fail
        go_quiet (fail)
        go_wp2;go_roundw
        case rel=>exact ⟨j+1,nd+nq,by omega,by go_num,by rw [HS'.out],rfl⟩
        case measure=>simp [intOf];omega
     ·obtain rfl:j=gs.length:=by omega
      have HO2:Hid ((wr.drewN nd).ownsRow (w.heap.size+1) 3 1 _ (zQ gs k).length ((zQ gs k).map (Value.int .i64))):=HO.out;have HB2:=O (z4a HB.out nd);have HX2:Hid ((wr.drewN nd).heap[w.heap.size]?=some (.cells #[int i64 (Rn:Int),int i64 C,.slice ac gs.length cc] 38)):=HX.out;have hs2:w.heap.size+2<=(wr.drewN nd).heap.size:=hsr;have hfb:(!(gs.take gs.length).any (z2a (k:Int)))=!z2f gs (k:Int):=(by rw [List.take_length];rfl);rw [hfb];clear hfb;generalize wr.drewN nd=w2 at *;have g3:w2.cell? ⟨w.heap.size,2,none⟩=some (.slice ac gs.length cc):=zf HX2.out
      cases h1:z2f gs (k:Int) with
      | true =>
       have HS:=O (z84 h1);rw [show (!true)=false from rfl];clear h1;go_wp2;go_roundw
       case rel=>exact ⟨k+1,_,by omega,by go_num,rfl,by rw [HS.out];exact HO2,HB2,HX2,hs2⟩
       case measure=>simp [intOf];omega
      | false =>
       have HS:=O (z8Z h1);have hO2:=HO2.out;rw [show (!false)=true from rfl];clear h1 HO HO2;go_wp2_with (at_builtin;refine wpList_append_own _ rfl _ _ 27 rfl (w.heap.size+1) 3 i0 (int i64 0) 1 8 underlying27 hi hz0 hz1 hz2 rfl (by decide) _ _ _ rfl (hO2.alloc _) ⟨w2.heap.size,0,none⟩ 1 1 [int i64 (k:Int)] rfl rfl ?c1 ?c2 ?c3 ?c4 ?c5 ?_)
       case c1 =>
        intro i u hi
        match i,hi with
        | 0,hi=>simp at hi;subst hi;simp [Addr.add]
       case c2=>intro u hu;simp at hu;subst hu;rfl
       case c3=>unfold maxLen;omega
       case c4=>omega
       case c5=>simp;omega
       intro v' w5 hown' hgrow' _;have hne:=zes hO2 (Nat.lt_succ_self w.heap.size);have HB5:Hid (Below w.heap.size w w5):=(ze HB2.out _).grown hgrow' (by simp;omega) (λj e=>by have:=zgh hO2 e;omega);have HX5:Hid (w5.heap[w.heap.size]?=_):=O ((hgrow'.block w.heap.size (by simp;omega) hne).trans ((bA (by omega)).trans HX2.out));have hs5:w.heap.size+2<=w5.heap.size:=(by have:=hgrow'.size;simp at this;omega);have HO5:Hid (w5.ownsRow (w.heap.size+1) 3 1 v' (zQ gs (k+1)).length ((zQ gs (k+1)).map (Value.int .i64))):=O (by rw [HS.out];simpa using hown');obtain ⟨g',cap',rfl⟩:=Joins.ownsRow_form hown' (by omega);clear hown' hgrow' hO2 hne;go_wp2;go_roundw
       case rel=>exact ⟨k+1,_,by omega,by go_num,rfl,HO5,HB5,HX5,hs5⟩
       case measure=>simp [intOf];omega
   ·obtain rfl:k=Rn:=by omega
    go_wp2;go_ret;refine ⟨_,rfl,?_,HB.out⟩;rw [HF.out];exact (zq.of_owns HO.out).base (by omega) lR
end
section
open Go.RowKit
def zaB:Value->Nat
 | .slice _ n _=>n
 | _=>0
structure C9f (w W:World) (B P:Nat) (rm:List Int) (r:Int) (n f:Nat) (A0:Int) (L0 G0:Nat) (TGT:List (List zk) × List zk) (pv:Value) (us:List Value) (pgs:List (List zk)) (gv:Value) (page:List zk):Prop where
 hf:f<=n
 p:P9 W B P pv us pgs gv page
 e:(z0o r (f:Int) (n - f)).foldl (z00 rm) (pgs,page)=TGT
 st:f < n->z69 page r\/(page ≠ []/\zN rm pgs.length - zu page<=0)
 h0:0<=zu page
 h1:zu page+((n:Int) - f)<=A0
 gl:page.length<=G0+f
 pl:pgs.length+min 1 page.length<=L0+f
 b:Below B w W
 tf:TF w W
 bs:B<=W.heap.size
theorem C9f.kept {w W W':World} {B P:Nat} {rm:List Int} {r:Int} {n f:Nat} {A0:Int} {L0 G0:Nat} {TGT:List (List zk) × List zk} {pv:Value} {us:List Value} {pgs:List (List zk)} {gv:Value} {page:List zk} (h:C9f w W B P rm r n f A0 L0 G0 TGT pv us pgs gv page) (k:Below W.heap.size W W'):C9f w W' B P rm r n f A0 L0 G0 TGT pv us pgs gv page :=
 { h with p:=h.p.kept k,b:=h.b.trans (k.mono h.bs),tf:=h.tf.trans (TF.of_below k),bs:=nT h.bs k.size }
theorem C9f.push {w W w2:World} {B P:Nat} {rm:List Int} {r:Int} {n f:Nat} {A0:Int} {L0 G0:Nat} {TGT:List (List zk) × List zk} {pv v':Value} {us:List Value} {pgs:List (List zk)} {gv:Value} {page:List zk} {o:Obj} (h:C9f w W B P rm r n f A0 L0 G0 TGT pv us pgs gv page) (hg:(W.alloc o).grownBy w2 pv.ownBlock) (ho:w2.ownsRow B 41 1 v' (us.length+1) (us ++ [gv])) (hlt:f < n) (hp:page ≠ []) (hr:zN rm pgs.length - zu page<=0) :
  C9f w (w2.alloc (.cells #[] 45)) B w2.heap.size rm r n f A0 L0 G0 TGT v' (us ++ [gv]) (pgs ++ [page]) (.slice (some ⟨w2.heap.size,0,none⟩) 0 0) []:=by
 have hpl:=List.length_pos_iff.2 hp;have hs:=hg.size;rw [World.size_alloc] at hs;have h9:=h.h0;have h8:=h.h1;have h7:=h.pl;have h6:=h.bs;refine ⟨h.hf,h.p.push hg ho h.bs,?_,λ_=>.inl (λl hl=>by simp at hl),by simp [zu],?_,nZ,?_,h.p.pushed h.b hg h.bs,((h.tf.alloc o).grownP (h.p.own.alloc o) hg).alloc _,by simp;omega⟩
 ·rw [<-h.e];exact (zhT (by omega) hp hr).symm
 ·rw [zen];omega
 ·simp only [List.length_append,List.length_cons,List.length_nil];omega
theorem C9f.add {w W w4:World} {B P:Nat} {rm:List Int} {r:Int} {n f:Nat} {A0:Int} {L0 G0:Nat} {TGT:List (List zk) × List zk} {pv v':Value} {us:List Value} {pgs:List (List zk)} {gv:Value} {page:List zk} {o:Obj} (h:C9f w W B P rm r n f A0 L0 G0 TGT pv us pgs gv page) {k:Nat} {tt:Int}
  (hg:(W.alloc o).grownBy w4 gv.ownBlock) (ho:zx w4 P v' (page ++ [⟨r,(f:Int),tt⟩])) (hk1:0 < k) (hk2:k<=n - f) (hto:tt=(f:Int)+k) (hkm:(k:Int)<=max 1 (zN rm pgs.length - zu page)) (hkl:k < n - f->zN rm pgs.length - zu page<=k) (hpush:page=[]\/0 < zN rm pgs.length - zu page) (hlt:f < n) :
  C9f w w4 B P rm r n (f+k) A0 L0 G0 TGT pv us pgs v' (page ++ [⟨r,(f:Int),tt⟩]):=by
 have hs:=hg.size;rw [World.size_alloc] at hs;have h9:=h.h0;have h8:=h.h1;have h7:=h.pl;have h6:=h.bs;have h5:=h.gl;have KA:=ze (Below.refl W.heap.size W) o;have hbA:Below B w (W.alloc o):=h.b.trans (KA.mono h.bs);have hbs:B<=(W.alloc o).heap.size:=(by simp;omega)
 have hhi:zu (page ++ [⟨r,(f:Int),tt⟩])=zu page+k:=by
  rw [z1D,z3b,hto];simp only;omega
 have hnl:z69 page r:=by
  rcases h.st hlt with h1 | ⟨h1,h2⟩
  ·exact h1
  ·rcases hpush with h3 | h3
   ·exact absurd h3 h1
   ·omega
 refine ⟨by omega,(h.p.kept KA).add hg ho,?_,λh3=>.inr ⟨by simp,?_⟩,by omega,by rw [hhi];omega,?_,?_,(h.p.kept KA).grew hbA hg hbs,(h.tf.alloc o).grownS (h.p.kept KA).page hg,by omega⟩
 ·rw [<-h.e,zk4 hk1 hk2 hnl hpush hkm,hto];have e1:((f+k:Nat):Int)=(f:Int)+k:=(by omega);have e2:n - (f+k)=n - f - k:=(by omega);rw [e1,e2]
 ·rw [hhi];have:=hkl (by omega);omega
 ·rw [List.length_append,List.length_cons,List.length_nil];omega
 ·rw [List.length_append,List.length_cons,List.length_nil];omega
theorem zhB (rm:List Int) (hl:0 < rm.length) (hl2:rm.length<=1000) (hrm:∀ k,-1000000<=zN rm k/\zN rm k<=1000) (vr:Value) (B P:Nat) (pv gv:Value) (us:List Value) (pgs:List (List zk)) (page:List zk) (r:Int) (n:Nat) (hn:n<=1000) (hnl:z69 page r) (h0:0<=zu page) (h1:zu page+n<=1000000) (hpl:pgs.length<=50000) (hgl:page.length<=50000)
  (w:World) (hB:B<=w.heap.size) (hr:∀ W,Below B w W->zA W vr rm) (hP:P9 w B P pv us pgs gv page) :
  Calls prog 54 #[pv,gv,int i64 r,int i64 (n:Int),vr] w λe w'=>∃ P' pv' us' gv',e=.returned (.tuple #[pv',gv'])/\P9 w' B P' pv' us' ((z0o r 0 n).foldl (z00 rm) (pgs,page)).1 gv' ((z0o r 0 n).foldl (z00 rm) (pgs,page)).2/\Below B w w'/\TF w w':=by
 obtain ⟨i0,hi0,hz0,hz1,hz2⟩:=info_parts z7Z;obtain ⟨j0,hj0,hy0,hy1,hy2⟩:=info_parts z5i;generalize hTG:(z0o r 0 n).foldl (z00 rm) (pgs,page)=TGT;have H0:Hid (C9f w w B P rm r n 0 (zu page+n) (pgs.length+1) page.length TGT pv us pgs gv page):=O ⟨nZ,hP,hTG,λ_=>.inl hnl,h0,by omega,by omega,by omega,bR,TF.refl _,hB⟩;obtain ⟨ap,cp,rfl,_⟩:=zP hP.own;obtain ⟨ag,cg,rfl⟩:=hP.page.form;have HR:=O hr;have HM:=O hrm;have HT:=O hTG;obtain ⟨A0,hA0⟩:∃ A0,zu page+n=A0:=⟨_,rfl⟩;obtain ⟨L0,hL0⟩:∃ L0,pgs.length+1=L0:=⟨_,rfl⟩;obtain ⟨G0,hG0⟩:∃ G0,page.length=G0:=⟨_,rfl⟩;rw [hA0,hL0] at H0;have hA1:A0<=1000000:=(by omega);have hL1:L0<=50001:=(by omega);have hG1:G0<=50000:=(by omega);have HG:=O hG0;clear hP hr hrm hTG hnl h0 h1 hpl hgl hA0 hL0 hG0;go_enter func54,ntmps54;go_wp2_with fail
 go_loopw [0,1,12] (λpv gv i W=>∃ (f:Nat) (us:List Value) (pgs:List (List zk)) (page:List zk) (P:Nat),i=int i64 (f:Int)/\Hid (C9f w W B P rm r n f A0 L0 G0 TGT pv us pgs gv page)) (λ_ gv i _=>2 * (n - (intOf i).toNat)+min 1 (zaB gv))
 case atStart=>exact ⟨0,us,pgs,page,P,rfl,by rw [<-HG.out];exact H0⟩
 case round =>
  clear H0 HT HG;obtain ⟨f,us,pgs,page,P,rfl,HC⟩:=hrel;obtain ⟨ap,cp,rfl,_⟩:=zP HC.out.p.own;obtain ⟨ag,cg,rfl⟩:=HC.out.p.page.form;have hf:=HC.out.hf;by_cases hlt:f < n
  case neg =>
   obtain rfl:f=n:=by omega
   have HE:Hid (TGT=(pgs,page)):=O (by rw [<-HC.out.e,Nat.sub_self];rfl);go_wp2;exact bodyPost_ret (v:=.tuple #[.slice ap us.length cp,.slice ag page.length cg]) (by simp [results,results54,go_sem]) rfl ⟨P,_,us,_,rfl,by rw [HE.out];exact HC.out.p,HC.out.b,HC.out.tf⟩
  have hul:=HC.out.p.len;have KR:=O (λW (h:zA W vr rm) (hx:pgs.length<=100000)=>zay rm hl hl2 pgs.length hx vr W h);have b1:=HC.out.h0;have b2:=HC.out.h1;have b3:=HC.out.gl;have b4:=HC.out.pl;have b5:=HC.out.bs;have hlow:z3t page:=⟨b1,by omega⟩;have KA:=O (λW z (h:z1Y W z (.slice ag page.length cg) page)=>(z4G hlow ▸ z7L _ page W h:Calls prog 99 #[.slice ag page.length cg] W λe w'=>e=.returned (int i64 (zu page))/\Below W.heap.size W w'));have hrb:=HM.out pgs.length;have hpl:pgs.length<=60000:=(by omega);have hub:us.length<=60000:=(by omega);have hgl:page.length<=60000:=(by omega);rw [hul] at HC |-;clear hlow hul b3 b4;have HR1:=HR.out wr HC.out.b;go_wp2_with fail
  refine (KR.out _ HR1 (by omega)).mono ?_;rintro e w1 ⟨rfl,k1⟩;replace HC:=O (HC.out.kept k1);clear k1 HR1 KR b5;go_wp2_with fail
  refine (KA.out _ _ HC.out.p.page.at).mono ?_;rintro e w2 ⟨rfl,k2⟩;have HQ:=O (HC.out.kept k2);have hB2:=HQ.out.bs;have hP2:=HQ.out.p.hi;have hBP:=HQ.out.p.le;clear k2 KA HC;have HQd:=O (λ(v':Value) (w4:World) (o:Obj) hg ho hp hr=>C9f.push HQ.out (v':=v') (w2:=w4) (o:=o) hg ho hlt hp hr);have HQa:=O (λ(v':Value) (w4:World) (o:Obj) (k:Nat) (tt:Int) hg ho h1 h2 h3 h4 h5 h6=>C9f.add HQ.out (v':=v') (w4:=w4) (o:=o) (k:=k) (tt:=tt) hg ho h1 h2 h3 h4 h5 h6 hlt);have HOp:=O (HQ.out.p.own);have HOg:=O (HQ.out.p.page);clear HQ;generalize zN rm pgs.length=R at HQd HQa hrb |-;generalize zu page=A at HQd HQa b1 b2 |-;have hwr:IntKind.i64.wrap (R - A)=R - A:=(by rw [IntKind.wrap_i64];omega);have hfr:((f:Int) < (n:Int))=True:=(by simp;omega);by_cases hfree:R - A<=0
  ·by_cases he:page=[]
   ·subst he;have hpush:([]:List zk)=[]\/0 < R - A:=.inl rfl;clear HQd HOp;go_wp2_with fail
    refine (z34 1 (R - A) w2).mono ?_;rintro e w9 ⟨rfl,hw9⟩;obtain rfl:w2=w9:=hw9.symm;by_cases hto:(n:Int) < (f:Int)+max 1 (R - A)
    ·exact absurd hto (by omega)
    ·obtain ⟨k,hk⟩:∃ k:Nat,(k:Int)=max 1 (R - A):=⟨(max 1 (R - A)).toNat,by omega⟩;have hwk:IntKind.i64.wrap ((f:Int)+(k:Int))=(f:Int)+(k:Int):=(by rw [IntKind.wrap_i64];omega);rw [<-hk] at hto |-;have hO:=HOg.out;unfold zx at hO;have HA:=O (λ(v':Value) (w4:World) (o:Obj) (hg:(w2.alloc o).grownBy w4 (Value.slice ag 0 cg).ownBlock) (ho:zx w4 P v' ([] ++ [⟨r,(f:Int),((f:Int)+(k:Int))⟩]))=>HQa.out v' w4 o k ((f:Int)+(k:Int)) hg ho (by omega) (by omega) (by omega) (by omega) (by omega) hpush);have hkn:1<=k:=(by omega);clear HQa hk;go_wp2_with (at_builtin;refine wpList_append_own _ rfl _ _ 41 rfl P 45 i0 _ 3 24 underlying41 hi0 hz0 hz1 hz2 rfl (by decide) _ _ _ rfl (hO.alloc _) ⟨w2.heap.size,0,none⟩ 1 1 (z0y ⟨r,(f:Int),((f:Int)+(k:Int))⟩) rfl rfl ?c1 ?c2 ?c3 ?c4 ?c5 ?_)
     case c1=>exact z0K (zj w2 _)
     case c2=>simp [z0y,Value.oneCell']
     case c3=>unfold maxLen;simp only [List.length_nil];omega
     case c4=>simp only [List.length_nil];omega
     case c5=>simp;omega
     intro v' w4 hown' hgrow' _;have HN:=O (HA.out v' w4 _ hgrow' (zx.next hown'));obtain ⟨g',cap',rfl⟩:=Joins.ownsRow_form hown' (by omega);clear hown' hgrow' hO HA HOg;go_wp2;go_roundw
     case rel=>exact ⟨f+k,us,pgs,_,P,by go_num,HN⟩
     case measure=>simp [intOf,zaB];omega
   ·have hpos:(0:Int) < (page.length:Int):=(by have:=List.length_pos_iff.2 he;omega);have hO:=HOp.out;go_wp2_with (at_builtin;refine wpList_append_own _ rfl _ _ 30 rfl B 41 j0 _ 1 24 underlying30 hj0 hy0 hy1 hy2 rfl (by decide) _ _ _ rfl (hO.alloc _) ⟨w2.heap.size,0,none⟩ 1 1 [.slice ag page.length cg] rfl rfl ?c1 ?c2 ?c3 ?c4 ?c5 ?_)
    case c1=>exact z0K (zj w2 (.cells #[.slice ag page.length cg] 41))
    case c2=>simp [Value.oneCell']
    case c3=>unfold maxLen;omega
    case c4=>omega
    case c5=>simp;omega
    intro v' w4 hown' hgrow' _;have HN:=O (HQd.out v' w4 _ hgrow' hown' he hfree);have hpn:=List.length_pos_iff.2 he;obtain ⟨g',cap',rfl⟩:=Joins.ownsRow_form hown' (by omega);clear hown' hgrow' hO HQd HQa HOp HOg;go_wp2;go_roundw
    case rel=>exact ⟨f,_,_,_,_,rfl,HN⟩
    case measure=>simp [intOf,zaB];omega
  ·have hpush:page=[]\/0 < R - A:=.inr (by omega);clear HQd HOp;go_wp2_with fail
   refine (z34 1 (R - A) w2).mono ?_;rintro e w9 ⟨rfl,hw9⟩;obtain rfl:w2=w9:=hw9.symm;by_cases hto:(n:Int) < (f:Int)+max 1 (R - A)
   ·obtain ⟨k,hk⟩:∃ k:Nat,k=n - f:=⟨_,rfl⟩;have hO:=HOg.out;unfold zx at hO;have HA:=O (λ(v':Value) (w4:World) (o:Obj) (hg:(w2.alloc o).grownBy w4 (Value.slice ag page.length cg).ownBlock) (ho:zx w4 P v' (page ++ [⟨r,(f:Int),(n:Int)⟩]))=>HQa.out v' w4 o k (n:Int) hg ho (by omega) (by omega) (by omega) (by omega) (by omega) hpush);have HKn:Hid ((n:Int)=((f+k:Nat):Int)):=O (by omega);have hkn:1<=k/\f+k=n:=(by omega);clear HQa hk;go_wp2_with (at_builtin;refine wpList_append_own _ rfl _ _ 41 rfl P 45 i0 _ 3 24 underlying41 hi0 hz0 hz1 hz2 rfl (by decide) _ _ _ rfl (hO.alloc _) ⟨w2.heap.size,0,none⟩ 1 1 (z0y ⟨r,(f:Int),(n:Int)⟩) rfl rfl ?c1 ?c2 ?c3 ?c4 ?c5 ?_)
    case c1=>exact z0K (zj w2 _)
    case c2=>simp [z0y,Value.oneCell']
    case c3=>unfold maxLen;omega
    case c4=>omega
    case c5=>simp;omega
    intro v' w4 hown' hgrow' _;have HN:=O (HA.out v' w4 _ hgrow' (zx.next hown'));obtain ⟨g',cap',rfl⟩:=Joins.ownsRow_form hown' (by omega);clear hown' hgrow' hO HA HOg;go_wp2;go_roundw
    case rel=>exact ⟨f+k,us,pgs,_,P,by rw [HKn.out],HN⟩
    case measure=>simp [intOf,zaB];omega
   ·obtain ⟨k,hk⟩:∃ k:Nat,(k:Int)=max 1 (R - A):=⟨(max 1 (R - A)).toNat,by omega⟩;have hwk:IntKind.i64.wrap ((f:Int)+(k:Int))=(f:Int)+(k:Int):=(by rw [IntKind.wrap_i64];omega);rw [<-hk] at hto |-;have hO:=HOg.out;unfold zx at hO;have HA:=O (λ(v':Value) (w4:World) (o:Obj) (hg:(w2.alloc o).grownBy w4 (Value.slice ag page.length cg).ownBlock) (ho:zx w4 P v' (page ++ [⟨r,(f:Int),((f:Int)+(k:Int))⟩]))=>HQa.out v' w4 o k ((f:Int)+(k:Int)) hg ho (by omega) (by omega) (by omega) (by omega) (by omega) hpush);have hkn:1<=k:=(by omega);clear HQa hk;go_wp2_with (at_builtin;refine wpList_append_own _ rfl _ _ 41 rfl P 45 i0 _ 3 24 underlying41 hi0 hz0 hz1 hz2 rfl (by decide) _ _ _ rfl (hO.alloc _) ⟨w2.heap.size,0,none⟩ 1 1 (z0y ⟨r,(f:Int),((f:Int)+(k:Int))⟩) rfl rfl ?c1 ?c2 ?c3 ?c4 ?c5 ?_)
    case c1=>exact z0K (zj w2 _)
    case c2=>simp [z0y,Value.oneCell']
    case c3=>unfold maxLen;omega
    case c4=>omega
    case c5=>simp;omega
    intro v' w4 hown' hgrow' _;have HN:=O (HA.out v' w4 _ hgrow' (zx.next hown'));obtain ⟨g',cap',rfl⟩:=Joins.ownsRow_form hown' (by omega);clear hown' hgrow' hO HA HOg;go_wp2;go_roundw
    case rel=>exact ⟨f+k,us,pgs,_,P,by go_num,HN⟩
    case measure=>simp [intOf,zaB];omega
theorem zdG (s:ByteArray) (hs:s.size<=maxLen) (q:Int) (hq:-9223372036854775808<=q/\q<=9223372036854775807) (w:World) :
  Calls prog 85 #[.string s,int i64 q] w λe w'=>∃ v,e=.returned v/\z1I w' w.heap.size v (z01 (z1f q (zZ s)))/\Below w.heap.size w w':=by
 obtain ⟨i0,hi,hz0,hz1,hz2⟩:=info_parts zki;have hwl:=z60 s;have HW:=O (z8m s hs);generalize zZ s=l at HW hwl |-;go_enter func85,ntmps85;go_wp2_with fail
 refine (HW.out _).mono ?_;rintro e w1 ⟨v1,rfl,hv1,hb1⟩;have V1:=O hv1;have K1:=O hb1;obtain ⟨a1,c1,rfl⟩:=za9 hv1;have hsz1:=hb1.size;clear hv1 hb1;go_wp2_with fail
 go_loopw [6,7] (λo i W=>∃ k:Nat,k<=l.length/\i=int i64 k/\Hid (z1I W w1.heap.size o (z01 (z1f q (l.take k))))/\Hid (Below w1.heap.size w1 W)) (λ_ i _=>l.length - (intOf i).toNat)
 case atStart=>exact ⟨0,nZ,rfl,z1I.of_owns (World.ownsRow_made w1 #[] 0 lR nZ rfl),ze bR _⟩
 case round =>
  obtain ⟨k,hk,rfl,HR,HB⟩:=hrel;by_cases hlt:k < l.length
  ·obtain ⟨g,cap',e',h1,h2,hx⟩:=zeH (z4B V1.out HB.out) hlt;simp only [Value.slice.injEq,true_and] at e';obtain ⟨rfl,rfl⟩:=e';have h3:=l[k].2;have HT:=O (zh1 (q:=q) hlt);obtain ⟨hb1,hb2⟩:=zbO q (l.take k);have hok:=O (zd9 q (l.take k));have htl:(l.take k).length<=30:=(by rw [List.length_take];omega);have HN:=O (λh=>zjG (q:=q) hok.out h l[k]);have HK:=O (λh=>zh0 (q:=q) hok.out h l[k]);have HF:=O (λh=>ziC (q:=q) hok.out h l[k]);rw [<-HT.out] at HN HK HF;generalize l[k]=x at hx h3 HN HK HF;generalize hout:z01 (z1f q (l.take k))=out at HR HN HK HF hb1 hb2;clear hout HT hok;obtain ⟨ao,co,rfl⟩:=HR.out.form;unfold maxLen at h2;have hbs:=HB.out.size;by_cases hn0:out.length=0
   ·have hd:decide ((0:Int) < (out.length:Int))=false:=decide_eq_false (by omega);have HE:=O (HN.out hn0);obtain rfl:out=[]:=List.eq_nil_of_length_eq_zero hn0;clear hn0 hd HK HF HN;have hd:decide ((0:Int) < (0:Int))=false:=rfl;go_wp2_with fail
    go_quiet (fail)
    have hO:(wr.drewN nq).ownsRow w1.heap.size 9 1 (.slice ao 0 co) 0 []:=zda HR.out;go_wp2_with (at_builtin;refine wpList_append_own _ rfl _ _ 93 rfl w1.heap.size 9 i0 (.string ⟨#[]⟩) 1 16 underlying93 hi hz0 hz1 hz2 rfl (by decide) _ _ _ rfl (hO.alloc _) ⟨wr.heap.size,0,none⟩ 1 1 [.string x.1] rfl rfl ?c1 ?c2 ?c3 ?c4 ?c5 ?_)
    case c1=>exact cell_one_new (wr.drewN nq) (.string x.1) 9
    case c2=>intro u hu;simp at hu;subst hu;rfl
    case c3=>unfold maxLen;omega
    case c4=>omega
    case c5=>simp;omega
    intro v' w2 hown' hgrow' _;have HB2:=O ((ze (z4a HB.out nq) (.cells #[.string x.1] 9)).grown hgrow' (by simp;omega) (λb hb=>(hO.lt b hb).1))
    have HR2:Hid (z1I w2 w1.heap.size v' (z01 (z1f q (l.take (k+1))))):=by
     show z1I _ _ _ _;rw [HE.out];exact z1I.of_owns hown'
    obtain ⟨g',cap',rfl⟩:=Joins.ownsRow_form hown' (by omega);clear hown' hgrow' hO HR HB;go_wp2;go_roundw
    case rel=>exact ⟨k+1,by omega,by go_num,HR2,HB2⟩
    case measure=>simp [intOf];omega
   ·obtain ⟨m,hm⟩:=Nat.exists_eq_succ_of_ne_zero hn0;obtain ⟨go,co',e',hgo,hgs,hc1,hc2,hy,hfy⟩:=HR.out.get (i:=out.length - 1) (by omega);simp only [Value.slice.injEq,true_and] at e';obtain ⟨rfl,rfl⟩:=e';have hyl:out.getD (out.length - 1) eS=z57 out:=rfl;rw [hyl] at hy;have hm1:out.length - 1=m:=(by omega);have hm2:out.length=m+1:=hm;have HR0:=O (zda HR.out);have HRs:=O (λy=>HR.out.set (i:=out.length - 1) (by omega) y);have HKo:=O (HK.out hn0);have HFo:=O (HF.out hn0);generalize z57 out=y at hy hb2 HKo HFo;rw [hm1] at hy hfy HRs HFo;rw [hm2] at hc1 HR0 HRs;rw [hm2];unfold maxLen at hc2;have hd:decide ((0:Int) < ((m:Int)+1))=true:=decide_eq_true (by omega);by_cases hqq:q < (y.size:Int)+1+x.1.size
    ·have hdq:decide ((y.size:Int)+1+(x.1.size:Int)<=q)=false:=decide_eq_false (by omega);have HE:=O (HKo.out hqq);go_wp2_with fail
     go_quiet (fail)
     have hO:(wr.drewN nq).ownsRow w1.heap.size 9 1 (.slice (some ⟨go,0,none⟩) (m+1) co) (m+1) (out.map Value.string):=HR0.out;go_wp2_with (at_builtin;refine wpList_append_own _ rfl _ _ 93 rfl w1.heap.size 9 i0 (.string ⟨#[]⟩) 1 16 underlying93 hi hz0 hz1 hz2 rfl (by decide) _ _ _ rfl (hO.alloc _) ⟨wr.heap.size,0,none⟩ 1 1 [.string x.1] rfl rfl ?c1 ?c2 ?c3 ?c4 ?c5 ?_)
     case c1=>exact cell_one_new (wr.drewN nq) (.string x.1) 9
     case c2=>intro u hu;simp at hu;subst hu;rfl
     case c3=>unfold maxLen;omega
     case c4=>omega
     case c5=>simp;omega
     intro v' w2 hown' hgrow' _;have HB2:=O ((ze (z4a HB.out nq) (.cells #[.string x.1] 9)).grown hgrow' (by simp;omega) (λb hb=>(hO.lt b hb).1))
     have HR2:Hid (z1I w2 w1.heap.size v' (z01 (z1f q (l.take (k+1))))):=by
      show z1I _ _ _ _;rw [HE.out];exact z1I.of_owns (by rw [List.length_append,List.map_append,hm2];exact hown')
     obtain ⟨g',cap',rfl⟩:=Joins.ownsRow_form hown' (by omega);clear hown' hgrow' hO HR HB;go_wp2;go_roundw
     case rel=>exact ⟨k+1,by omega,by go_num,HR2,HB2⟩
     case measure=>simp [intOf];omega
    ·have hdq:decide ((y.size:Int)+1+(x.1.size:Int)<=q)=true:=decide_eq_true (by omega);have HE:=O (HFo.out hqq);have hz3:¬ 9223372036854775807 < y.size+1:=(by omega);have hz4:¬ 9223372036854775807 < y.size+1+x.1.size:=(by omega);go_wp2_with fail
     go_quiet (fail)
     go_wp2_with fail
     have hy':(wr.drewN nq).cell? ⟨go,m,none⟩=some (.string y):=hy;have hx':(wr.drewN nq).cell? ⟨g,k,none⟩=some (.string x.1):=hx;have hf':(wr.drewN nq).frozen? ⟨go,m,none⟩=false:=hfy;have HB1:=O (z4a HB.out nq);have HR1:Hid (∀ y,z1I ((wr.drewN nq).setCell ⟨go,m,none⟩ (.string y)) w1.heap.size (.slice (some ⟨go,0,none⟩) (m+1) co) (out.set m y)):=HRs;clear hy hx hfy HR HRs HR0 HN HK HF HKo HFo HB;generalize wr.drewN nq=W1 at hy' hx' hf' HB1 HR1 |-
     go_region
     all_goals
      go_wp2;go_roundw
      case rel=>exact ⟨k+1,by omega,by go_num,by rw [HE.out];exact HR1.out _,Below.drew ((HB1.out).setCell (p:=⟨go,m,none⟩) hgo _)⟩
      case measure=>simp [intOf];omega
  ·obtain rfl:k=l.length:=by omega
   rw [List.take_length] at HR;obtain ⟨ao,co,rfl⟩:=HR.out.form;go_wp2;go_ret;exact ⟨_,rfl,HR.out.base hsz1,zi K1.out HB.out⟩
end
end Go.Proofs.YtggmjiddadjilahGreat
