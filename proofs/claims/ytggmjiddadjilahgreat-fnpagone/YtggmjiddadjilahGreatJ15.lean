/-
  PROVED HERE: what the model's BrdOk answers at every border. Also: 3 more texts of the same proof.
-/
import Derived.Test.YtggmjiddadjilahGreatJ12
set_option maxRecDepth 1000000
set_option maxHeartbeats 40000000
open Go.Proofs.Tryz
namespace Go.Proofs.YtggmjiddadjilahGreat
open Value (int)
open IntKind (i64)
open Go.RowKit
theorem z3R (a b:Int) (w:World) :
  Calls prog 107 #[.agg #[int i64 a,int i64 b]] w λe w'=>e=.returned (.bool (z1n a b))/\w'=w.alloc (.cells #[int i64 a,int i64 b] 76):=by
 by_cases h0:a=0
 ·subst h0;go_enter func107,ntmps107;go_wp2;go_ret;exact ⟨zV (zcp b).symm,rfl⟩
 by_cases h4:a=4
 ·subst h4;go_enter func107,ntmps107;go_wp2;go_ret;exact ⟨zV (zcq b).symm,rfl⟩
 have e0:(a == 0)=false:=beq_eq_false_iff_ne.2 h0;have e4:(a == 4)=false:=beq_eq_false_iff_ne.2 h4;by_cases h:1<=a/\a<=3
 ·have hi:zM a 1 3=true:=z4E h.1 h.2;have HB:Hid (z1n a b=zM b 1 3):=z7j b h.1 h.2;clear h h0 h4;go_enter func107,ntmps107;go_wp2_with (go_at_call 36;refine (z0t _ _ _ _).mono ?_;rintro e w' ⟨rfl,rfl⟩)
  go_ret;exact ⟨zV HB.out.symm,rfl⟩
 ·have hi:zM a 1 3=false:=z33 h;have HB:Hid (z1n a b=false):=zbe b h0 h4 h;clear h h0 h4;go_enter func107,ntmps107;go_wp2_with (go_at_call 36;refine (z0t _ _ _ _).mono ?_;rintro e w' ⟨rfl,rfl⟩)
  go_ret;exact ⟨zV HB.out.symm,rfl⟩
theorem z9Y (s:ByteArray) (c r a1 b1 a2 b2 a3 b3 a4 b4:Int) (w:World) (hs:s.size<=maxLen) :
  Calls prog 67 #[.agg #[.string s,int i64 c,int i64 r,int i64 a1,int i64 b1,int i64 a2,int i64 b2,int i64 a3,int i64 b3,int i64 a4,int i64 b4]] w λe w'=>e=.returned (.bool (z0p s c r a1 b1 a2 b2 a3 b3 a4 b4))/\Below w.heap.size w w':=by
 cases h0:z0u s
 ·
  as_aux_lemma =>
   have HB:Hid (z0p s c r a1 b1 a2 b2 a3 b3 a4 b4=false):=Hid.mk (by simp [z0p,h0]);go_enter func67,ntmps67;go_wp2_with (first | (go_at_call 106;refine (z2H _ _ hs).mono ?_;rintro e w' ⟨rfl,rfl⟩) | (go_at_call 36;refine (z0t _ _ _ _).mono ?_;rintro e w' ⟨rfl,rfl⟩) | (go_at_call 107;refine (z3R _ _ _).mono ?_;rintro e w' ⟨rfl,rfl⟩))
   go_ret;exact ⟨zV HB.out.symm,by repeat (first | exact bR | apply ze)⟩
 cases h1:zM c 1 4
 ·
  as_aux_lemma =>
   have HB:Hid (z0p s c r a1 b1 a2 b2 a3 b3 a4 b4=false):=Hid.mk (by simp [z0p,h0,h1]);go_enter func67,ntmps67;go_wp2_with (first | (go_at_call 106;refine (z2H _ _ hs).mono ?_;rintro e w' ⟨rfl,rfl⟩) | (go_at_call 36;refine (z0t _ _ _ _).mono ?_;rintro e w' ⟨rfl,rfl⟩) | (go_at_call 107;refine (z3R _ _ _).mono ?_;rintro e w' ⟨rfl,rfl⟩))
   go_ret;exact ⟨zV HB.out.symm,by repeat (first | exact bR | apply ze)⟩
 cases h2:zM r 1 4
 ·
  as_aux_lemma =>
   have HB:Hid (z0p s c r a1 b1 a2 b2 a3 b3 a4 b4=false):=Hid.mk (by simp [z0p,h0,h1,h2]);go_enter func67,ntmps67;go_wp2_with (first | (go_at_call 106;refine (z2H _ _ hs).mono ?_;rintro e w' ⟨rfl,rfl⟩) | (go_at_call 36;refine (z0t _ _ _ _).mono ?_;rintro e w' ⟨rfl,rfl⟩) | (go_at_call 107;refine (z3R _ _ _).mono ?_;rintro e w' ⟨rfl,rfl⟩))
   go_ret;exact ⟨zV HB.out.symm,by repeat (first | exact bR | apply ze)⟩
 cases h3:z1n a1 b1
 ·
  as_aux_lemma =>
   have HB:Hid (z0p s c r a1 b1 a2 b2 a3 b3 a4 b4=false):=Hid.mk (by simp [z0p,h0,h1,h2,h3]);go_enter func67,ntmps67;go_wp2_with (first | (go_at_call 106;refine (z2H _ _ hs).mono ?_;rintro e w' ⟨rfl,rfl⟩) | (go_at_call 36;refine (z0t _ _ _ _).mono ?_;rintro e w' ⟨rfl,rfl⟩) | (go_at_call 107;refine (z3R _ _ _).mono ?_;rintro e w' ⟨rfl,rfl⟩))
   go_ret;exact ⟨zV HB.out.symm,by repeat (first | exact bR | apply ze)⟩
 cases h4:z1n a2 b2
 ·
  as_aux_lemma =>
   have HB:Hid (z0p s c r a1 b1 a2 b2 a3 b3 a4 b4=false):=Hid.mk (by simp [z0p,h0,h1,h2,h3,h4]);go_enter func67,ntmps67;go_wp2_with (first | (go_at_call 106;refine (z2H _ _ hs).mono ?_;rintro e w' ⟨rfl,rfl⟩) | (go_at_call 36;refine (z0t _ _ _ _).mono ?_;rintro e w' ⟨rfl,rfl⟩) | (go_at_call 107;refine (z3R _ _ _).mono ?_;rintro e w' ⟨rfl,rfl⟩))
   go_ret;exact ⟨zV HB.out.symm,by repeat (first | exact bR | apply ze)⟩
 cases h5:z1n a3 b3
 ·
  as_aux_lemma =>
   have HB:Hid (z0p s c r a1 b1 a2 b2 a3 b3 a4 b4=false):=Hid.mk (by simp [z0p,h0,h1,h2,h3,h4,h5]);go_enter func67,ntmps67;go_wp2_with (first | (go_at_call 106;refine (z2H _ _ hs).mono ?_;rintro e w' ⟨rfl,rfl⟩) | (go_at_call 36;refine (z0t _ _ _ _).mono ?_;rintro e w' ⟨rfl,rfl⟩) | (go_at_call 107;refine (z3R _ _ _).mono ?_;rintro e w' ⟨rfl,rfl⟩))
   go_ret;exact ⟨zV HB.out.symm,by repeat (first | exact bR | apply ze)⟩
 as_aux_lemma =>
  have HB:Hid (z0p s c r a1 b1 a2 b2 a3 b3 a4 b4=z1n a4 b4):=Hid.mk (by simp [z0p,h0,h1,h2,h3,h4,h5]);go_enter func67,ntmps67;go_wp2_with (first | (go_at_call 106;refine (z2H _ _ hs).mono ?_;rintro e w' ⟨rfl,rfl⟩) | (go_at_call 36;refine (z0t _ _ _ _).mono ?_;rintro e w' ⟨rfl,rfl⟩) | (go_at_call 107;refine (z3R _ _ _).mono ?_;rintro e w' ⟨rfl,rfl⟩))
  go_ret;exact ⟨zV HB.out.symm,by repeat (first | exact bR | apply ze)⟩
theorem zbj (k n:Int) (w:World) :
  Calls prog 66 #[.agg #[int i64 k,int i64 n]] w λe w'=>e=.returned (.bool (z2w k n))/\Below w.heap.size w w':=by
 by_cases h0:k=0
 ·subst h0;have HC:=O (zje n);go_enter func66,ntmps66;go_wp2;go_ret;exact ⟨zV HC.out.symm,by repeat (first | refine ze ?_ _ | exact bR)⟩
 by_cases h1:k=1
 ·subst h1;have HC:=O (zg4 n);go_enter func66,ntmps66;go_wp2_with (go_at_call 36;refine (z0t _ _ _ _).mono ?_;rintro e w' ⟨rfl,rfl⟩)
  go_ret;exact ⟨zV HC.out.symm,by repeat (first | refine ze ?_ _ | exact bR)⟩
 by_cases h2:k=2
 ·subst h2;have HC:=O (zg5 n);go_enter func66,ntmps66;go_wp2_with (go_at_call 36;refine (z0t _ _ _ _).mono ?_;rintro e w' ⟨rfl,rfl⟩)
  go_ret;exact ⟨zV HC.out.symm,by repeat (first | refine ze ?_ _ | exact bR)⟩
 have e0:(k == 0)=false:=beq_eq_false_iff_ne.2 h0;have e1:(k == 1)=false:=beq_eq_false_iff_ne.2 h1;have e2:(k == 2)=false:=beq_eq_false_iff_ne.2 h2;have HC:=O (zep n h0 h1 h2);clear h0 h1 h2;go_enter func66,ntmps66;go_wp2;go_ret;exact ⟨zV HC.out.symm,by repeat (first | refine ze ?_ _ | exact bR)⟩
theorem zfa {ps:List (Int × Int)} (h:¬ ps.length<=8):z2k ps=false:=by simp [z2k,h]
theorem zgt {r:R} (h:¬ r.cells.length<=5):z2g r=false:=by simp [z2g,h]
theorem zi5 {n:Nat} {hd ft:Int} (h:zM hd 0 n=false):z2e n hd ft=false:=by rw [z2e,h];rfl
theorem zi6 {n:Nat} {hd ft:Int} (h:zM ft 0 (n - hd)=false):z2e n hd ft=false:=by rw [z2e,h,Bool.and_false]
theorem zi7 {n:Nat} {hd ft:Int} (h:zM hd 0 n=true) (h':zM ft 0 (n - hd)=true):z2e n hd ft=true:=by rw [z2e,h,h'];rfl
theorem zgu {t:T} (h:t.rows.all z2g=false):zF t=false:=by simp only [zF,h,Bool.and_false]
theorem zbk {t:T} (h:z2k t.cols=false):zF t=false:=by simp only [zF,h,Bool.and_false,Bool.false_and]
theorem z86 (ac ar:Option Addr) (cc cr:Nat) (t:T) (w:World) {z:Nat} (hc:z09 w z (.slice ac t.cols.length cc) t.cols) (hr:z05 w z (.slice ar t.rows.length cr) t.rows) :
  Calls prog 35 #[.agg #[.slice ac t.cols.length cc,int i64 t.head,int i64 t.foot,.slice ar t.rows.length cr,int i64 t.gap]] w λe w'=>e=.returned (.bool (zF t))/\Below w.heap.size w w':=by
 have HC:=O hc;have HR:=O hr;clear hc hr;have K0:=O (ze (Below.refl w.heap.size w) (.cells #[.slice ac t.cols.length cc,int i64 t.head,int i64 t.foot,.slice ar t.rows.length cr,int i64 t.gap] 26))
 cases h0:zM t.rows.length 1 8
 ·have HF:Hid (zF t=false):=O (by rw [zF,h0];rfl);go_enter func35,ntmps35;go_wp2_with (go_at_call 36;refine (z0t _ _ _ _).mono ?_;rintro e w' ⟨rfl,rfl⟩)
  go_ret;exact ⟨zV HF.out.symm,ze bR _⟩
 have hN:1<=(t.rows.length:Int)/\(t.rows.length:Int)<=8:=of_decide_eq_true h0;obtain ⟨hN1,hN2⟩:=hN;by_cases c8:(8:Int) < (t.cols.length:Int)
 ·have HF:Hid (zF t=false):=O (zbk (zfa (by omega)));go_enter func35,ntmps35;go_wp2_with (go_at_call 36;refine (z0t _ _ _ _).mono ?_;rintro e w' ⟨rfl,rfl⟩)
  go_ret;exact ⟨zV HF.out.symm,ze bR _⟩
 have c8':t.cols.length<=8:=(by omega)
 cases h1:zM t.head 0 t.rows.length
 ·have HF:Hid (zF t=false):=O (by simp only [zF,zi5 h1,Bool.false_and,Bool.and_false]);go_enter func35,ntmps35;go_wp2_with (go_at_call 36;refine (z0t _ _ _ _).mono ?_;rintro e w' ⟨rfl,rfl⟩)
  go_ret;exact ⟨zV HF.out.symm,ze bR _⟩
 have hH:0<=t.head/\t.head<=t.rows.length:=of_decide_eq_true h1;obtain ⟨hH1,hH2⟩:=hH
 cases h2:zM t.foot 0 (t.rows.length - t.head)
 ·have HF:Hid (zF t=false):=O (by simp only [zF,zi6 h2,Bool.false_and,Bool.and_false]);go_enter func35,ntmps35;go_wp2_with (go_at_call 36;refine (z0t _ _ _ _).mono ?_;rintro e w' ⟨rfl,rfl⟩)
  go_ret;exact ⟨zV HF.out.symm,ze bR _⟩
 cases h3:zM t.gap 0 3
 ·have HF:Hid (zF t=false):=O (by simp only [zF,h3,Bool.false_and,Bool.and_false]);go_enter func35,ntmps35;go_wp2_with (go_at_call 36;refine (z0t _ _ _ _).mono ?_;rintro e w' ⟨rfl,rfl⟩)
  go_ret;exact ⟨zV HF.out.symm,ze bR _⟩
 have HT:Hid (zF t=(z2k t.cols && t.rows.all z2g)):=O (by rw [zF,h0,zi7 h1 h2,h3];rfl);go_enter func35,ntmps35;go_wp2_with (go_at_call 36;refine (z0t _ _ _ _).mono ?_;rintro e w' ⟨rfl,rfl⟩)
 clear h0 h1 h2 h3;go_loopw [3] (λi W=>∃ k:Nat,k<=t.cols.length/\i=int i64 k/\Hid (∀ j,j < k->(λp:Int × Int=>z2w p.1 p.2) (t.cols.getD j (0,0))=true)/\Hid (Below (w.alloc (.cells #[.slice ac t.cols.length cc,int i64 t.head,int i64 t.foot,.slice ar t.rows.length cr,int i64 t.gap] 26)).heap.size (w.alloc (.cells #[.slice ac t.cols.length cc,int i64 t.head,int i64 t.foot,.slice ar t.rows.length cr,int i64 t.gap] 26)) W)) (λi _=>t.cols.length - (intOf i).toNat)
 case atStart=>exact ⟨0,nZ,rfl,λj hj=>absurd hj (Nat.not_lt_zero _),bR⟩
 case round =>
  obtain ⟨k,hk,rfl,HA,HL⟩:=hrel;obtain ⟨m0,m1,m2,m3,m4⟩:=zL ((HL.out.block w.heap.size (by simp)).trans (z2M _ _));by_cases hlt:k < t.cols.length
  ·obtain ⟨b,off,cap',e',hc1,hc2,hbl,hx0,hx1⟩:=At.get (HC.out.kept (zi K0.out HL.out)) hlt;simp only [Value.slice.injEq,true_and] at e';obtain ⟨rfl,rfl⟩:=e';unfold maxLen at hc2
   cases hv:z2w (t.cols.getD k (0,0)).1 (t.cols.getD k (0,0)).2
   ·have HF:Hid (zF t=false):=O (zbk (by rw [z2k,z4O (0,0) (λp:Int × Int=>z2w p.1 p.2) t.cols k hlt hv,Bool.and_false]));generalize t.cols.getD k (0,0)=x at hx0 hx1 hv;go_wp2_with fail
    refine (zbj _ _ _).mono ?_;rw [hv];rintro e w1 ⟨rfl,hb1⟩;have K1:=O (zi (zi K0.out HL.out) hb1);clear hb1;go_wp2;go_ret;exact ⟨zV HF.out.symm,K1.out⟩
   ·have HN:=O (z4P (p:=λp:Int × Int=>z2w p.1 p.2) HA.out hv);generalize t.cols.getD k (0,0)=x at hx0 hx1 hv;go_wp2_with fail
    refine (zbj _ _ _).mono ?_;rw [hv];rintro e w1 ⟨rfl,hb1⟩;have K1:=O (zi HL.out hb1);clear hb1;go_wp2;go_roundw
    case rel=>exact ⟨k+1,by omega,by go_num,HN,K1⟩
    case measure=>simp [intOf];omega
  ·obtain rfl:k=t.cols.length:=by omega
   have HCt:Hid (z2k t.cols=true):=O (by rw [z2k,z5k (0,0) (λp:Int × Int=>z2w p.1 p.2) t.cols HA.out];simp [c8']);go_wp2_with fail
   go_loopw [4,5] (λi _ W=>∃ k:Nat,k<=t.rows.length/\i=int i64 k/\Hid (∀ j,j < k->z2g (t.rows.getD j dR)=true)/\Hid (Below (w.alloc (.cells #[.slice ac t.cols.length cc,int i64 t.head,int i64 t.foot,.slice ar t.rows.length cr,int i64 t.gap] 26)).heap.size (w.alloc (.cells #[.slice ac t.cols.length cc,int i64 t.head,int i64 t.foot,.slice ar t.rows.length cr,int i64 t.gap] 26)) W)) (λi _ _=>t.rows.length - (intOf i).toNat)
   case atStart=>exact ⟨0,nZ,rfl,λj hj=>absurd hj (Nat.not_lt_zero _),HL⟩
   case round =>
    obtain ⟨q,hq,rfl,HA2,HL2⟩:=hrel;clear m0 m1 m2 m3 m4;obtain ⟨m0,m1,m2,m3,m4⟩:=zL ((HL2.out.block w.heap.size (by simp)).trans (z2M _ _));by_cases hlq:q < t.rows.length
    ·obtain ⟨b,off,cap',e',hc1,hc2,hbl,u,hx0,hx1,hx⟩:=At.get (HR.out.kept (zi K0.out HL2.out)) hlq;simp only [Value.slice.injEq,true_and] at e';obtain ⟨rfl,rfl⟩:=e';unfold maxLen at hc2;obtain ⟨ua,ucap,rfl,hul⟩:=At.form hx;unfold maxLen at hul;have HX:=O hx;clear hx;have HRF:=O (λhb=>zgu (z4O dR z2g t.rows q hlq hb));have HRN:=O (λhb=>z4P (d:=dR) (p:=z2g) (l:=t.rows) (k:=q) HA2.out hb);generalize hxx:t.rows.getD q dR=x at hx0 hx1 hul HX HRF HRN;clear hxx;by_cases h5:(5:Int) < (x.cells.length:Int)
     ·have HF:Hid (zF t=false):=O (HRF.out (zgt (by omega)));go_wp2;go_ret;exact ⟨zV HF.out.symm,zi K0.out HL2.out⟩
     ·have h5':x.cells.length<=5:=(by omega);go_wp2_with fail
      obtain ⟨wo,rfl⟩:∃ wo:World,wo=wr:=⟨_,rfl⟩;go_loopw [5] (λi W=>∃ p:Nat,p<=x.cells.length/\i=int i64 p/\Hid (∀ j,j < p->cB (x.cells.getD j dC)=true)/\Hid (Below (w.alloc (.cells #[.slice ac t.cols.length cc,int i64 t.head,int i64 t.foot,.slice (some ⟨b,off,none⟩) t.rows.length cr,int i64 t.gap] 26)).heap.size (w.alloc (.cells #[.slice ac t.cols.length cc,int i64 t.head,int i64 t.foot,.slice (some ⟨b,off,none⟩) t.rows.length cr,int i64 t.gap] 26)) W)/\Hid (Below wo.heap.size wo W)) (λi _=>x.cells.length - (intOf i).toNat)
      case atStart=>exact ⟨0,nZ,rfl,λj hj=>absurd hj (Nat.not_lt_zero _),HL2,bR⟩
      case round =>
       obtain ⟨p,hp,rfl,HA3,HL3,HO⟩:=hrel;clear m0 m1 m2 m3 m4;obtain ⟨m0,m1,m2,m3,m4⟩:=zL ((HL3.out.block w.heap.size (by simp)).trans (z2M _ _));have hy0:=(HO.out.cell (p:=⟨b,off+q * 2,none⟩) hbl).trans hx0;clear hx0 hx1;by_cases hlp:p < x.cells.length
       ·obtain ⟨b2,z4H,cap2,e2,hd1,hd2,hbl2,hz,hs⟩:=At.get (HX.out.kept HO.out) hlp;simp only [Value.slice.injEq,true_and] at e2;obtain ⟨rfl,rfl⟩:=e2;unfold maxLen at hd2;have hs':=O hs;clear hs
        cases hv:cB (x.cells.getD p dC)
        ·have HF:Hid (zF t=false):=O (HRF.out (by rw [z2g,z4O dC cB x.cells p hlp hv,Bool.and_false]));generalize x.cells.getD p dC=y at hz hs' hv;obtain ⟨x0,x1,x2,x3,x4,x5,x6,x7,x8,x9,x10⟩:=hz;go_wp2_with fail
         refine (z9Y _ _ _ _ _ _ _ _ _ _ _ _ hs'.out).mono ?_;rw [show z0p y.s y.c y.r y.a1 y.b1 y.a2 y.b2 y.a3 y.b3 y.a4 y.b4=false from hv];rintro e w1 ⟨rfl,hb1⟩;have K1:=O (zi (zi K0.out HL3.out) hb1);clear hb1;go_wp2;go_ret;exact ⟨zV HF.out.symm,K1.out⟩
        ·have HN:=O (z4P HA3.out hv);generalize x.cells.getD p dC=y at hz hs' hv;obtain ⟨x0,x1,x2,x3,x4,x5,x6,x7,x8,x9,x10⟩:=hz;go_wp2_with fail
         refine (z9Y _ _ _ _ _ _ _ _ _ _ _ _ hs'.out).mono ?_;rw [show z0p y.s y.c y.r y.a1 y.b1 y.a2 y.b2 y.a3 y.b3 y.a4 y.b4=true from hv];rintro e w1 ⟨rfl,hb1⟩;have K1:=O (zi HL3.out hb1);have O1:=O (zi HO.out hb1);clear hb1;go_wp2;go_roundw
         case rel=>exact ⟨p+1,by omega,by go_num,HN,K1,O1⟩
         case measure=>simp [intOf];omega
       ·obtain rfl:p=x.cells.length:=by omega
        have HN:=O (HRN.out (by rw [z2g,z5k dC cB x.cells HA3.out];simp [h5']));go_wp2;go_roundw
        case rel=>exact ⟨q+1,by omega,by go_num,HN,HL3⟩
        case measure=>simp [intOf];omega
    ·obtain rfl:q=t.rows.length:=by omega
     have HF:Hid (zF t=true):=O (by rw [HT.out,HCt.out,z5k dR z2g t.rows HA2.out];rfl);go_wp2;go_ret;exact ⟨zV HF.out.symm,zi K0.out HL2.out⟩
end Go.Proofs.YtggmjiddadjilahGreat
