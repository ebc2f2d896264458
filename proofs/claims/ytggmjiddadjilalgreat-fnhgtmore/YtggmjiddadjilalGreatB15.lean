/-
  PROVED HERE: what holds between two operations of the two statements of l20Table that draw their order. Also: 4 more texts of the same proof.
-/
import Derived.Test.YtggmjiddadjilalGreatB14
set_option maxRecDepth 1000000
set_option maxHeartbeats 40000000
namespace Go.Proofs.YtggmjiddadjilalGreat
open Value (int)
open IntKind (i64)
open Go.RowKit
def Cx (x:C):Prop:=x.s.size<=61/\(x.r<=3\/x.r=5)
theorem zfQ (a b k:Int) (h0:0<=k) (h1:k < 4):∃ x y:Int,(#[int i64 0,int i64 0,int i64 0,int i64 0,int i64 1,int i64 a,int i64 2,int i64 b]:Array Value)[k.toNat * 2]?=some (int i64 x)/\(#[int i64 0,int i64 0,int i64 0,int i64 0,int i64 1,int i64 a,int i64 2,int i64 b]:Array Value)[k.toNat * 2+1]?=some (int i64 y):=by
 rcases (by omega:k=0\/k=1\/k=2\/k=3) with rfl | rfl | rfl | rfl
 ·exact ⟨0,0,rfl,rfl⟩
 ·exact ⟨0,0,rfl,rfl⟩
 ·exact ⟨1,a,rfl,rfl⟩
 ·exact ⟨2,b,rfl,rfl⟩
theorem zb7:(Tryz.prog.info? 55).map (fun i=>(i.zero,i.size,i.bytes))=some (some (Value.agg #[int i64 0,int i64 0]),2,16):=by kernel_rfl
theorem z9E:(Tryz.prog.info? 36).map (fun i=>(i.zero,i.size,i.bytes))=some (some (Value.agg #[.string ⟨#[]⟩,int i64 0,int i64 0,int i64 0,int i64 0,int i64 0,int i64 0,int i64 0,int i64 0,int i64 0,int i64 0]),11,96):=by kernel_rfl
theorem zb8:(Tryz.prog.info? 32).map (fun i=>(i.zero,i.size,i.bytes))=some (some (Value.agg #[.slice none 0 0,.bool false]),2,32):=by kernel_rfl
def z1m (L:Nat->Bool):Nat:=(if L 5=true then 1 else 0)+(if L 9=true then 1 else 0)+(if L 15=true then 1 else 0)
theorem z4i (L:Nat->Bool):z1m L<=3:=by unfold z1m;(repeat (first | omega | split))
theorem zcx {L:Nat->Bool} (h:L 5=false):z1m (upd L 5)=z1m L+1:=by simp [z1m,upd,h];omega
theorem zcy {L:Nat->Bool} (h:L 9=false):z1m (upd L 9)=z1m L+1:=by simp [z1m,upd,h];omega
theorem zbz {L:Nat->Bool} (h:L 15=false):z1m (upd L 15)=z1m L+1:=by simp [z1m,upd,h]
theorem z02 {L:Nat->Bool} {i:Nat} (h:i ≠ 5/\i ≠ 9/\i ≠ 15):z1m (upd L i)=z1m L:=by
 have k5:(5:Nat) ≠ i:=fun e=>(h.1) e.symm;have k9:(9:Nat) ≠ i:=fun e=>(h.2.1) e.symm;have k15:(15:Nat) ≠ i:=fun e=>(h.2.2) e.symm;simp [z1m,upd,k5,k9,k15]
structure zfR (r B n0:Nat) (w0:World) (F:World->Prop) (base:Nat) (U:Value) (nn:Nat) (xs:List Value) (tb:Nat) (tc:Array Value)  (L:Nat->Bool) (w:World) (v18 v19 v20 v21 v22 v23 v24 v25 v26 v27 v28 v29 v30 v31 v32 v33 v34 v35 v36 v37 v38:Value):Prop where
 f0:L 0=true->v18=.pointer (some ⟨tb,0,none⟩)
 f1:L 1=true->v19=U
 f2:L 2=true->v20=.agg #[int i64 0,int i64 0]
 f3:L 3=true->v21=.agg #[int i64 0,int i64 0]
 f4:L 4=true->v22=.pointer (some ⟨r,0,none⟩)
 f5:L 5=true->PI 0 29 v23
 f6:L 6=true->∃ k:Int,v24=.agg #[int i64 1,int i64 k]
 f7:L 7=true->L 19=false->PB n0 w 3 4 (fun arr=>arr=#[int i64 10,int i64 25,int i64 50,int i64 100]) v25
 f8:L 8=true->v26=.pointer (some ⟨r,0,none⟩)
 f9:L 9=true->PI 0 3 v27
 f10:L 10=true->L 19=false->PP n0 w 3 (fun arr k=>∃ v:Int,arr[k]?=some (int i64 v)) v28
 f11:L 11=true->∃ v:Int,v29=int i64 v
 f12:L 12=true->∃ v:Int,v30=.agg #[int i64 2,int i64 v]
 f13:L 13=true->L 19=false->PB n0 w 55 4 (fun arr=>∃ a b:Int,arr=#[int i64 0,int i64 0,int i64 0,int i64 0,int i64 1,int i64 a,int i64 2,int i64 b]) v31
 f14:L 14=true->v32=.pointer (some ⟨r,0,none⟩)
 f15:L 15=true->PI 0 3 v33
 f16:L 16=true->L 19=false->PP n0 w 55 (fun arr k=>∃ x y:Int,arr[k]?=some (int i64 x)/\arr[k+1]?=some (int i64 y)) v34
 f17:L 17=true->∃ x y:Int,v35=.agg #[int i64 x,int i64 y]
 f18:L 18=true->L 19=false->PB n0 w 55 1 (fun arr=>∃ x y:Int,arr=#[int i64 x,int i64 y]) v36
 f20:L 20=true->v38=.pointer (some ⟨tb,0,none⟩)
 rd:Rd w r (B+z1m L)
 bk:Bk r w0 w
 fr:F w
 own:L 19=false->w.ownsRow base 55 2 U nn xs
 ownA:L 19=true->∃ nw,(∃ p,nw=z1t p)/\w.ownsRow base 55 2 v37 (nn+1) (xs ++ nw)
 tb0:L 21=false->w.heap[tb]?=some (.cells tc 26)
 tb1:L 21=true->w.heap[tb]?=some (.cells (tc.setIfInBounds (0) v37) 26)
def zgb (r B n0:Nat) (w0:World) (F:World->Prop) (base:Nat) (U:Value) (nn:Nat) (xs:List Value) (tb:Nat) (tc:Array Value)  (mk:Value->Value->Value->Value->Value->Value->Value->Value->Value->Value->Value->Value->Value->Value->Value->Value->Value->Value->Value->Value->Value->Act) (L:Nat->Bool) (a:Act) (w:World):Prop:=∃ v18 v19 v20 v21 v22 v23 v24 v25 v26 v27 v28 v29 v30 v31 v32 v33 v34 v35 v36 v37 v38:Value,a=mk v18 v19 v20 v21 v22 v23 v24 v25 v26 v27 v28 v29 v30 v31 v32 v33 v34 v35 v36 v37 v38/\zfR r B n0 w0 F base U nn xs tb tc L w v18 v19 v20 v21 v22 v23 v24 v25 v26 v27 v28 v29 v30 v31 v32 v33 v34 v35 v36 v37 v38
def z2S (L:Nat->Bool):Nat:=(if L 3=true then 50 else 0)
theorem z7q (L:Nat->Bool):z2S L<=50:=by unfold z2S;(repeat (first | omega | split))
theorem zcz {L:Nat->Bool} (h:L 3=false):z2S (upd L 3)=z2S L+50:=by simp [z2S,upd,h]
theorem z1T {L:Nat->Bool} {i:Nat} (h:i ≠ 3):z2S (upd L i)=z2S L:=by
 have k3:(3:Nat) ≠ i:=fun e=>(h) e.symm;simp [z2S,upd,k3]
structure zfS (r B n0:Nat) (w0:World) (F:World->Prop) (base:Nat) (U:Value) (nn:Nat) (xs:List Value) (tb:Nat) (tc:Array Value)  (L:Nat->Bool) (w:World) (v57 v58 v59 v60 v61 v62 v63:Value):Prop where
 f0:L 0=true->v57=.pointer (some ⟨tb,0,none⟩)
 f1:L 1=true->v58=U
 f2:L 2=true->v59=.pointer (some ⟨r,0,none⟩)
 f3:L 3=true->∃ x:C,v60=.agg #[.string x.s,int i64 x.c,int i64 x.r,int i64 x.a1,int i64 x.b1,int i64 x.a2,int i64 x.b2,int i64 x.a3,int i64 x.b3,int i64 x.a4,int i64 x.b4]/\Cx x
 f4:L 4=true->L 5=false->PB n0 w 36 1 (fun arr=>∃ x:C,arr=(z01 x).toArray/\Cx x) v61
 f6:L 6=true->v63=.pointer (some ⟨tb,0,none⟩)
 rd:Rd w r (B+z2S L)
 bk:Bk r w0 w
 fr:F w
 own:L 5=false->w.ownsRow base 36 11 U nn xs
 ownA:L 5=true->∃ nw,(∃ x,nw=z01 x/\Cx x)/\w.ownsRow base 36 11 v62 (nn+1) (xs ++ nw)
 tb0:L 7=false->w.heap[tb]?=some (.cells tc 32)
 tb1:L 7=true->w.heap[tb]?=some (.cells (tc.setIfInBounds (0) v62) 32)
def zgc (r B n0:Nat) (w0:World) (F:World->Prop) (base:Nat) (U:Value) (nn:Nat) (xs:List Value) (tb:Nat) (tc:Array Value)  (mk:Value->Value->Value->Value->Value->Value->Value->Act) (L:Nat->Bool) (a:Act) (w:World):Prop:=∃ v57 v58 v59 v60 v61 v62 v63:Value,a=mk v57 v58 v59 v60 v61 v62 v63/\zfS r B n0 w0 F base U nn xs tb tc L w v57 v58 v59 v60 v61 v62 v63
theorem z2H (a b:Int) (w:World) :
  Calls Tryz.prog 44 #[.agg #[int i64 a,int i64 b]] w fun e w'=>e=.returned (.bool (z0H a b))/\w'=w.alloc (.cells #[int i64 a,int i64 b] 34):=by
 by_cases h0:a=0
 ·subst h0;go_enter Tryz.func44,Tryz.ntmps44;go_wp2;go_ret;exact ⟨zU (z9z b).symm,rfl⟩
 by_cases h4:a=4
 ·subst h4;go_enter Tryz.func44,Tryz.ntmps44;go_wp2;go_ret;exact ⟨zU (z9A b).symm,rfl⟩
 have e0:(a == 0)=false:=beq_eq_false_iff_ne.2 h0;have e4:(a == 4)=false:=beq_eq_false_iff_ne.2 h4;by_cases h:1<=a/\a<=3
 ·have hi:inB a 1 3=true:=z2k h.1 h.2;have HB:Hid (z0H a b=inB b 1 3):=z5v b h.1 h.2;clear h h0 h4;go_enter Tryz.func44,Tryz.ntmps44;go_wp2_with (go_at_call 19;refine (z0w _ _ _ _).mono ?_;rintro e w' ⟨rfl,rfl⟩)
  go_ret;exact ⟨zU HB.out.symm,rfl⟩
 ·have hi:inB a 1 3=false:=z25 h;have HB:Hid (z0H a b=false):=z8w b h0 h4 h;clear h h0 h4;go_enter Tryz.func44,Tryz.ntmps44;go_wp2_with (go_at_call 19;refine (z0w _ _ _ _).mono ?_;rintro e w' ⟨rfl,rfl⟩)
  go_ret;exact ⟨zU HB.out.symm,rfl⟩
theorem z7r (s:ByteArray) (c r a1 b1 a2 b2 a3 b3 a4 b4:Int) (w:World) (hs:s.size<=maxLen) :
  Calls Tryz.prog 21 #[.agg #[.string s,int i64 c,int i64 r,int i64 a1,int i64 b1,int i64 a2,int i64 b2,int i64 a3,int i64 b3,int i64 a4,int i64 b4]] w fun e w'=>e=.returned (.bool (zR s c r a1 b1 a2 b2 a3 b3 a4 b4))/\Below w.heap.size w w':=by
 cases h0:zC s
 ·
  as_aux_lemma =>
   have HB:Hid (zR s c r a1 b1 a2 b2 a3 b3 a4 b4=false):=Hid.mk (by simp [zR,h0]);go_enter Tryz.func21,Tryz.ntmps21;go_wp2_with (first | (go_at_call 32;refine (z2h _ _ hs).mono ?_;rintro e w' ⟨rfl,rfl⟩) | (go_at_call 19;refine (z0w _ _ _ _).mono ?_;rintro e w' ⟨rfl,rfl⟩) | (go_at_call 44;refine (z2H _ _ _).mono ?_;rintro e w' ⟨rfl,rfl⟩))
   go_ret;exact ⟨zU HB.out.symm,by repeat (first | exact Below.refl _ _ | apply ze)⟩
 cases h1:inB c 1 4
 ·
  as_aux_lemma =>
   have HB:Hid (zR s c r a1 b1 a2 b2 a3 b3 a4 b4=false):=Hid.mk (by simp [zR,h0,h1]);go_enter Tryz.func21,Tryz.ntmps21;go_wp2_with (first | (go_at_call 32;refine (z2h _ _ hs).mono ?_;rintro e w' ⟨rfl,rfl⟩) | (go_at_call 19;refine (z0w _ _ _ _).mono ?_;rintro e w' ⟨rfl,rfl⟩) | (go_at_call 44;refine (z2H _ _ _).mono ?_;rintro e w' ⟨rfl,rfl⟩))
   go_ret;exact ⟨zU HB.out.symm,by repeat (first | exact Below.refl _ _ | apply ze)⟩
 cases h2:inB r 1 4
 ·
  as_aux_lemma =>
   have HB:Hid (zR s c r a1 b1 a2 b2 a3 b3 a4 b4=false):=Hid.mk (by simp [zR,h0,h1,h2]);go_enter Tryz.func21,Tryz.ntmps21;go_wp2_with (first | (go_at_call 32;refine (z2h _ _ hs).mono ?_;rintro e w' ⟨rfl,rfl⟩) | (go_at_call 19;refine (z0w _ _ _ _).mono ?_;rintro e w' ⟨rfl,rfl⟩) | (go_at_call 44;refine (z2H _ _ _).mono ?_;rintro e w' ⟨rfl,rfl⟩))
   go_ret;exact ⟨zU HB.out.symm,by repeat (first | exact Below.refl _ _ | apply ze)⟩
 cases h3:z0H a1 b1
 ·
  as_aux_lemma =>
   have HB:Hid (zR s c r a1 b1 a2 b2 a3 b3 a4 b4=false):=Hid.mk (by simp [zR,h0,h1,h2,h3]);go_enter Tryz.func21,Tryz.ntmps21;go_wp2_with (first | (go_at_call 32;refine (z2h _ _ hs).mono ?_;rintro e w' ⟨rfl,rfl⟩) | (go_at_call 19;refine (z0w _ _ _ _).mono ?_;rintro e w' ⟨rfl,rfl⟩) | (go_at_call 44;refine (z2H _ _ _).mono ?_;rintro e w' ⟨rfl,rfl⟩))
   go_ret;exact ⟨zU HB.out.symm,by repeat (first | exact Below.refl _ _ | apply ze)⟩
 cases h4:z0H a2 b2
 ·
  as_aux_lemma =>
   have HB:Hid (zR s c r a1 b1 a2 b2 a3 b3 a4 b4=false):=Hid.mk (by simp [zR,h0,h1,h2,h3,h4]);go_enter Tryz.func21,Tryz.ntmps21;go_wp2_with (first | (go_at_call 32;refine (z2h _ _ hs).mono ?_;rintro e w' ⟨rfl,rfl⟩) | (go_at_call 19;refine (z0w _ _ _ _).mono ?_;rintro e w' ⟨rfl,rfl⟩) | (go_at_call 44;refine (z2H _ _ _).mono ?_;rintro e w' ⟨rfl,rfl⟩))
   go_ret;exact ⟨zU HB.out.symm,by repeat (first | exact Below.refl _ _ | apply ze)⟩
 cases h5:z0H a3 b3
 ·
  as_aux_lemma =>
   have HB:Hid (zR s c r a1 b1 a2 b2 a3 b3 a4 b4=false):=Hid.mk (by simp [zR,h0,h1,h2,h3,h4,h5]);go_enter Tryz.func21,Tryz.ntmps21;go_wp2_with (first | (go_at_call 32;refine (z2h _ _ hs).mono ?_;rintro e w' ⟨rfl,rfl⟩) | (go_at_call 19;refine (z0w _ _ _ _).mono ?_;rintro e w' ⟨rfl,rfl⟩) | (go_at_call 44;refine (z2H _ _ _).mono ?_;rintro e w' ⟨rfl,rfl⟩))
   go_ret;exact ⟨zU HB.out.symm,by repeat (first | exact Below.refl _ _ | apply ze)⟩
 as_aux_lemma =>
  have HB:Hid (zR s c r a1 b1 a2 b2 a3 b3 a4 b4=z0H a4 b4):=Hid.mk (by simp [zR,h0,h1,h2,h3,h4,h5]);go_enter Tryz.func21,Tryz.ntmps21;go_wp2_with (first | (go_at_call 32;refine (z2h _ _ hs).mono ?_;rintro e w' ⟨rfl,rfl⟩) | (go_at_call 19;refine (z0w _ _ _ _).mono ?_;rintro e w' ⟨rfl,rfl⟩) | (go_at_call 44;refine (z2H _ _ _).mono ?_;rintro e w' ⟨rfl,rfl⟩))
  go_ret;exact ⟨zU HB.out.symm,by repeat (first | exact Below.refl _ _ | apply ze)⟩
theorem z8x (k n:Int) (w:World) :
  Calls Tryz.prog 20 #[.agg #[int i64 k,int i64 n]] w fun e w'=>e=.returned (.bool (z1G k n))/\Below w.heap.size w w':=by
 by_cases h0:k=0
 ·subst h0;have HC:=Hd (zeH n);go_enter Tryz.func20,Tryz.ntmps20;go_wp2;go_ret;exact ⟨zU HC.out.symm,by repeat (first | refine ze ?_ _ | exact Below.refl _ _)⟩
 by_cases h1:k=1
 ·subst h1;have HC:=Hd (zcr n);go_enter Tryz.func20,Tryz.ntmps20;go_wp2_with (go_at_call 19;refine (z0w _ _ _ _).mono ?_;rintro e w' ⟨rfl,rfl⟩)
  go_ret;exact ⟨zU HC.out.symm,by repeat (first | refine ze ?_ _ | exact Below.refl _ _)⟩
 by_cases h2:k=2
 ·subst h2;have HC:=Hd (zcs n);go_enter Tryz.func20,Tryz.ntmps20;go_wp2_with (go_at_call 19;refine (z0w _ _ _ _).mono ?_;rintro e w' ⟨rfl,rfl⟩)
  go_ret;exact ⟨zU HC.out.symm,by repeat (first | refine ze ?_ _ | exact Below.refl _ _)⟩
 have e0:(k == 0)=false:=beq_eq_false_iff_ne.2 h0;have e1:(k == 1)=false:=beq_eq_false_iff_ne.2 h1;have e2:(k == 2)=false:=beq_eq_false_iff_ne.2 h2;have HC:=Hd (zb4 n h0 h1 h2);clear h0 h1 h2;go_enter Tryz.func20,Tryz.ntmps20;go_wp2;go_ret;exact ⟨zU HC.out.symm,by repeat (first | refine ze ?_ _ | exact Below.refl _ _)⟩
theorem zbA {ps:List (Int × Int)} (h:¬ ps.length<=8):z1v ps=false:=by simp [z1v,h]
theorem zcA {r:R} (h:¬ r.cells.length<=5):z0Y r=false:=by simp [z0Y,h]
theorem zdA {n:Nat} {hd ft:Int} (h:inB hd 0 n=false):z1I n hd ft=false:=by rw [z1I,h];rfl
theorem zdB {n:Nat} {hd ft:Int} (h:inB ft 0 (n - hd)=false):z1I n hd ft=false:=by rw [z1I,h,Bool.and_false]
theorem zdC {n:Nat} {hd ft:Int} (h:inB hd 0 n=true) (h':inB ft 0 (n - hd)=true):z1I n hd ft=true:=by rw [z1I,h,h'];rfl
theorem zcB {t:T} (h:t.rows.all z0Y=false):zq t=false:=by simp only [zq,h,Bool.and_false]
theorem z8y {t:T} (h:z1v t.cols=false):zq t=false:=by simp only [zq,h,Bool.and_false,Bool.false_and]
theorem z64 (ac ar:Option Addr) (cc cr:Nat) (t:T) (w:World) {z:Nat} (hc:zY w z (.slice ac t.cols.length cc) t.cols) (hr:zJ w z (.slice ar t.rows.length cr) t.rows) :
  Calls Tryz.prog 5 #[.agg #[.slice ac t.cols.length cc,int i64 t.head,int i64 t.foot,.slice ar t.rows.length cr,int i64 t.gap]] w fun e w'=>e=.returned (.bool (zq t))/\Below w.heap.size w w':=by
 have HC:=Hd hc;have HR:=Hd hr;clear hc hr;have K0:=Hd (ze (Below.refl w.heap.size w) (.cells #[.slice ac t.cols.length cc,int i64 t.head,int i64 t.foot,.slice ar t.rows.length cr,int i64 t.gap] 26))
 cases h0:inB t.rows.length 1 8
 ·have HF:Hid (zq t=false):=Hd (by rw [zq,h0];rfl);go_enter Tryz.func5,Tryz.ntmps5;go_wp2_with (go_at_call 19;refine (z0w _ _ _ _).mono ?_;rintro e w' ⟨rfl,rfl⟩)
  go_ret;exact ⟨zU HF.out.symm,ze (Below.refl _ _) _⟩
 have hN:1<=(t.rows.length:Int)/\(t.rows.length:Int)<=8:=of_decide_eq_true h0;obtain ⟨hN1,hN2⟩:=hN;by_cases c8:(8:Int) < (t.cols.length:Int)
 ·have HF:Hid (zq t=false):=Hd (z8y (zbA (by omega)));go_enter Tryz.func5,Tryz.ntmps5;go_wp2_with (go_at_call 19;refine (z0w _ _ _ _).mono ?_;rintro e w' ⟨rfl,rfl⟩)
  go_ret;exact ⟨zU HF.out.symm,ze (Below.refl _ _) _⟩
 have c8':t.cols.length<=8:=(by omega)
 cases h1:inB t.head 0 t.rows.length
 ·have HF:Hid (zq t=false):=Hd (by simp only [zq,zdA h1,Bool.false_and,Bool.and_false]);go_enter Tryz.func5,Tryz.ntmps5;go_wp2_with (go_at_call 19;refine (z0w _ _ _ _).mono ?_;rintro e w' ⟨rfl,rfl⟩)
  go_ret;exact ⟨zU HF.out.symm,ze (Below.refl _ _) _⟩
 have hH:0<=t.head/\t.head<=t.rows.length:=of_decide_eq_true h1;obtain ⟨hH1,hH2⟩:=hH
 cases h2:inB t.foot 0 (t.rows.length - t.head)
 ·have HF:Hid (zq t=false):=Hd (by simp only [zq,zdB h2,Bool.false_and,Bool.and_false]);go_enter Tryz.func5,Tryz.ntmps5;go_wp2_with (go_at_call 19;refine (z0w _ _ _ _).mono ?_;rintro e w' ⟨rfl,rfl⟩)
  go_ret;exact ⟨zU HF.out.symm,ze (Below.refl _ _) _⟩
 cases h3:inB t.gap 0 3
 ·have HF:Hid (zq t=false):=Hd (by simp only [zq,h3,Bool.false_and,Bool.and_false]);go_enter Tryz.func5,Tryz.ntmps5;go_wp2_with (go_at_call 19;refine (z0w _ _ _ _).mono ?_;rintro e w' ⟨rfl,rfl⟩)
  go_ret;exact ⟨zU HF.out.symm,ze (Below.refl _ _) _⟩
 have HT:Hid (zq t=(z1v t.cols && t.rows.all z0Y)):=Hd (by rw [zq,h0,zdC h1 h2,h3];rfl);go_enter Tryz.func5,Tryz.ntmps5;go_wp2_with (go_at_call 19;refine (z0w _ _ _ _).mono ?_;rintro e w' ⟨rfl,rfl⟩)
 clear h0 h1 h2 h3;go_loopw [3] (fun i W=>∃ k:Nat,k<=t.cols.length/\i=int i64 k/\Hid (∀ j,j < k->(fun p:Int × Int=>z1G p.1 p.2) (t.cols.getD j (0,0))=true)/\Hid (Below (w.alloc (.cells #[.slice ac t.cols.length cc,int i64 t.head,int i64 t.foot,.slice ar t.rows.length cr,int i64 t.gap] 26)).heap.size (w.alloc (.cells #[.slice ac t.cols.length cc,int i64 t.head,int i64 t.foot,.slice ar t.rows.length cr,int i64 t.gap] 26)) W)) (fun i _=>t.cols.length - (intOf i).toNat)
 case atStart=>exact ⟨0,Nat.zero_le _,rfl,fun j hj=>absurd hj (Nat.not_lt_zero _),Below.refl _ _⟩
 case round =>
  obtain ⟨k,hk,rfl,HA,HL⟩:=hrel;obtain ⟨m0,m1,m2,m3,m4⟩:=zy ((HL.out.block w.heap.size (by simp)).trans (z1N _ _));by_cases hlt:k < t.cols.length
  ·obtain ⟨b,off,cap',e',hc1,hc2,hbl,hx0,hx1⟩:=At.get (HC.out.kept (zg K0.out HL.out)) hlt;simp only [Value.slice.injEq,true_and] at e';obtain ⟨rfl,rfl⟩:=e';unfold maxLen at hc2
   cases hv:z1G (t.cols.getD k (0,0)).1 (t.cols.getD k (0,0)).2
   ·have HF:Hid (zq t=false):=Hd (z8y (by rw [z1v,z37 (0,0) (fun p:Int × Int=>z1G p.1 p.2) t.cols k hlt hv,Bool.and_false]));generalize t.cols.getD k (0,0)=x at hx0 hx1 hv;go_wp2_with fail
    refine (z8x _ _ _).mono ?_;rw [hv];rintro e w1 ⟨rfl,hb1⟩;have K1:=Hd (zg (zg K0.out HL.out) hb1);clear hb1;go_wp2;go_ret;exact ⟨zU HF.out.symm,K1.out⟩
   ·have HN:=Hd (z38 (p:=fun p:Int × Int=>z1G p.1 p.2) HA.out hv);generalize t.cols.getD k (0,0)=x at hx0 hx1 hv;go_wp2_with fail
    refine (z8x _ _ _).mono ?_;rw [hv];rintro e w1 ⟨rfl,hb1⟩;have K1:=Hd (zg HL.out hb1);clear hb1;go_wp2;go_roundw
    case rel=>exact ⟨k+1,by omega,by go_num,HN,K1⟩
    case measure=>simp [intOf];omega
  ·obtain rfl:k=t.cols.length:=by omega
   have HCt:Hid (z1v t.cols=true):=Hd (by rw [z1v,z3C (0,0) (fun p:Int × Int=>z1G p.1 p.2) t.cols HA.out];simp [c8']);go_wp2_with fail
   go_loopw [4,5] (fun i _ W=>∃ k:Nat,k<=t.rows.length/\i=int i64 k/\Hid (∀ j,j < k->z0Y (t.rows.getD j dR)=true)/\Hid (Below (w.alloc (.cells #[.slice ac t.cols.length cc,int i64 t.head,int i64 t.foot,.slice ar t.rows.length cr,int i64 t.gap] 26)).heap.size (w.alloc (.cells #[.slice ac t.cols.length cc,int i64 t.head,int i64 t.foot,.slice ar t.rows.length cr,int i64 t.gap] 26)) W)) (fun i _ _=>t.rows.length - (intOf i).toNat)
   case atStart=>exact ⟨0,Nat.zero_le _,rfl,fun j hj=>absurd hj (Nat.not_lt_zero _),HL⟩
   case round =>
    obtain ⟨q,hq,rfl,HA2,HL2⟩:=hrel;clear m0 m1 m2 m3 m4;obtain ⟨m0,m1,m2,m3,m4⟩:=zy ((HL2.out.block w.heap.size (by simp)).trans (z1N _ _));by_cases hlq:q < t.rows.length
    ·obtain ⟨b,off,cap',e',hc1,hc2,hbl,u,hx0,hx1,hx⟩:=At.get (HR.out.kept (zg K0.out HL2.out)) hlq;simp only [Value.slice.injEq,true_and] at e';obtain ⟨rfl,rfl⟩:=e';unfold maxLen at hc2;obtain ⟨ua,ucap,rfl,hul⟩:=At.form hx;unfold maxLen at hul;have HX:=Hd hx;clear hx;have HRF:=Hd (fun hb=>zcB (z37 dR z0Y t.rows q hlq hb));have HRN:=Hd (fun hb=>z38 (d:=dR) (p:=z0Y) (l:=t.rows) (k:=q) HA2.out hb);generalize hxx:t.rows.getD q dR=x at hx0 hx1 hul HX HRF HRN;clear hxx;by_cases h5:(5:Int) < (x.cells.length:Int)
     ·have HF:Hid (zq t=false):=Hd (HRF.out (zcA (by omega)));go_wp2;go_ret;exact ⟨zU HF.out.symm,zg K0.out HL2.out⟩
     ·have h5':x.cells.length<=5:=(by omega);go_wp2_with fail
      obtain ⟨wo,rfl⟩:∃ wo:World,wo=wr:=⟨_,rfl⟩;go_loopw [5] (fun i W=>∃ p:Nat,p<=x.cells.length/\i=int i64 p/\Hid (∀ j,j < p->cB (x.cells.getD j dC)=true)/\Hid (Below (w.alloc (.cells #[.slice ac t.cols.length cc,int i64 t.head,int i64 t.foot,.slice (some ⟨b,off,none⟩) t.rows.length cr,int i64 t.gap] 26)).heap.size (w.alloc (.cells #[.slice ac t.cols.length cc,int i64 t.head,int i64 t.foot,.slice (some ⟨b,off,none⟩) t.rows.length cr,int i64 t.gap] 26)) W)/\Hid (Below wo.heap.size wo W)) (fun i _=>x.cells.length - (intOf i).toNat)
      case atStart=>exact ⟨0,Nat.zero_le _,rfl,fun j hj=>absurd hj (Nat.not_lt_zero _),HL2,Below.refl _ _⟩
      case round =>
       obtain ⟨p,hp,rfl,HA3,HL3,HO⟩:=hrel;clear m0 m1 m2 m3 m4;obtain ⟨m0,m1,m2,m3,m4⟩:=zy ((HL3.out.block w.heap.size (by simp)).trans (z1N _ _));have hy0:=(HO.out.cell (p:=⟨b,off+q * 2,none⟩) hbl).trans hx0;clear hx0 hx1;by_cases hlp:p < x.cells.length
       ·obtain ⟨b2,z3E,cap2,e2,hd1,hd2,hbl2,hz,hs⟩:=At.get (HX.out.kept HO.out) hlp;simp only [Value.slice.injEq,true_and] at e2;obtain ⟨rfl,rfl⟩:=e2;unfold maxLen at hd2;have hs':=Hd hs;clear hs
        cases hv:cB (x.cells.getD p dC)
        ·have HF:Hid (zq t=false):=Hd (HRF.out (by rw [z0Y,z37 dC cB x.cells p hlp hv,Bool.and_false]));generalize x.cells.getD p dC=y at hz hs' hv;obtain ⟨x0,x1,x2,x3,x4,x5,x6,x7,x8,x9,x10⟩:=hz;go_wp2_with fail
         refine (z7r _ _ _ _ _ _ _ _ _ _ _ _ hs'.out).mono ?_;rw [show zR y.s y.c y.r y.a1 y.b1 y.a2 y.b2 y.a3 y.b3 y.a4 y.b4=false from hv];rintro e w1 ⟨rfl,hb1⟩;have K1:=Hd (zg (zg K0.out HL3.out) hb1);clear hb1;go_wp2;go_ret;exact ⟨zU HF.out.symm,K1.out⟩
        ·have HN:=Hd (z38 HA3.out hv);generalize x.cells.getD p dC=y at hz hs' hv;obtain ⟨x0,x1,x2,x3,x4,x5,x6,x7,x8,x9,x10⟩:=hz;go_wp2_with fail
         refine (z7r _ _ _ _ _ _ _ _ _ _ _ _ hs'.out).mono ?_;rw [show zR y.s y.c y.r y.a1 y.b1 y.a2 y.b2 y.a3 y.b3 y.a4 y.b4=true from hv];rintro e w1 ⟨rfl,hb1⟩;have K1:=Hd (zg HL3.out hb1);have O1:=Hd (zg HO.out hb1);clear hb1;go_wp2;go_roundw
         case rel=>exact ⟨p+1,by omega,by go_num,HN,K1,O1⟩
         case measure=>simp [intOf];omega
       ·obtain rfl:p=x.cells.length:=by omega
        have HN:=Hd (HRN.out (by rw [z0Y,z3C dC cB x.cells HA3.out];simp [h5']));go_wp2;go_roundw
        case rel=>exact ⟨q+1,by omega,by go_num,HN,HL3⟩
        case measure=>simp [intOf];omega
    ·obtain rfl:q=t.rows.length:=by omega
     have HF:Hid (zq t=true):=Hd (by rw [HT.out,HCt.out,z3C dR z0Y t.rows HA2.out];rfl);go_wp2;go_ret;exact ⟨zU HF.out.symm,zg K0.out HL2.out⟩
end Go.Proofs.YtggmjiddadjilalGreat
