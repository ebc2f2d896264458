/-
  PROVED HERE: columns made wide enough for all cells of a drawn table's grid, as lists: first for those over one column, then over two, and so on; what is known of each cell. Also: 14 more texts of the same proof.
-/
import Derived.Test.YtggmjiddadjilalGreatB26
import Derived.Test.YtggmjiddadjilalGreatB29
set_option maxRecDepth 1000000
set_option maxHeartbeats 40000000
namespace Go.Proofs.YtggmjiddadjilalGreat
open Value (int)
open IntKind (i64)
section
open Go.RowKit
def z1V (p:GC->Int) (gap s:Int) (gs:List GC) (l:List Int):Nat->List Int
 | 0=>l
 | k+1=>if (gs.getD k dG).cols=s then z3h (z1V p gap s gs l k) (gs.getD k dG).col.toNat (gs.getD k dG).cols.toNat gap (p (gs.getD k dG)) else z1V p gap s gs l k
def z1l (p:GC->Int) (gap:Int) (gs:List GC) (l:List Int):Nat->List Int
 | 0=>l
 | s+1=>z1V p gap ((s+1:Nat):Int) gs (z1l p gap gs l s) gs.length
theorem z3l (p:GC->Int) (gap s:Int) (gs:List GC) (l:List Int):∀ k,(z1V p gap s gs l k).length=l.length
 | 0=>rfl
 | k+1=>by rw [z1V];split;rw [z8s];exact z3l p gap s gs l k;exact z3l p gap s gs l k
theorem z3m (p:GC->Int) (gap:Int) (gs:List GC) (l:List Int):∀ s,(z1l p gap gs l s).length=l.length
 | 0=>rfl
 | s+1=>by rw [z1l,z3l,z3m p gap gs l s]
def zL (t:T) (x:GC):ByteArray:=((t.rows.getD x.row.toNat dR).cells.getD x.ins.toNat dC).s
structure Cel (t:T) (C:Nat) (x:GC):Prop where
 ex:∃ rn jn cn mn:Nat,x.row=rn/\x.ins=jn/\x.col=cn/\x.cols=mn/\rn < t.rows.length/\jn < (t.rows.getD rn dR).cells.length/\cn+mn<=C/\1<=mn/\mn<=4
 gap:0<=t.gap/\t.gap<=3
 rows:0<=x.rows/\x.rows<=8
theorem z3n {t:T} (hD:z0b t):(gOf t).cells.length<=40/\∃ C:Nat,(gOf t).cols=C/\C<=88/\∀ k,k < (gOf t).cells.length->Cel t C ((gOf t).cells.getD k dG):=by
 cases h:zq t with
 | false=>rw [z9I h];exact ⟨by simp,0,rfl,by omega,fun k hk=>absurd hk (Nat.not_lt_zero _)⟩
 | true =>
  have hl:=z4I h hD;have h8:=hl.rows;have h40:=z9x hl t.rows.length
  have hg:0<=t.gap/\t.gap<=3:=by
   simp only [zq,inB,Bool.and_eq_true,decide_eq_true_eq] at h;exact h.2.2.1
  have hc:t.cols.length<=8:=by
   simp only [zq,z1v,Bool.and_eq_true,decide_eq_true_eq] at h;omega
  have hcb:=zay hl hc;rw [z3k h];refine ⟨by show (z03 t t.rows.length).length<=40;omega,(z0v (max 1 (t.cols.length:Int)) (zN t)).toNat,by show z0v (max 1 (t.cols.length:Int)) (zN t)=_;omega,by omega,fun k hk=>⟨?_,hg,?_⟩⟩
  ·have hk':k < (zN t).length:=hk;obtain ⟨r,j,hr,hj,e⟩:=(zb9 hl hk').ex;have hst:=z3Z hl (z1L (d:=dG) hk');have hm:=z7s (m:=max 1 (t.cols.length:Int)) (z1L (d:=dG) hk');have e1:((zN t).getD k dG).row=r:=(by rw [e];rfl);have e2:((zN t).getD k dG).ins=j:=(by rw [e];rfl);unfold z19 at hst;show ∃ rn jn cn mn:Nat,((zN t).getD k dG).row=rn/\((zN t).getD k dG).ins=jn/\((zN t).getD k dG).col=cn/\((zN t).getD k dG).cols=mn/\_;refine ⟨r,j,((zN t).getD k dG).col.toNat,((zN t).getD k dG).cols.toNat,e1,e2,by omega,by omega,hr,hj,by omega,by omega,by omega⟩
  ·have hk':k < (zN t).length:=hk;have hst:=z3Z hl (z1L (d:=dG) hk');unfold z19 at hst;show 0<=((zN t).getD k dG).rows/\((zN t).getD k dG).rows<=8;omega
theorem z82 {t:T} {C:Nat} {gs:List GC} {p:GC->Int} {l:List Int} {B s:Int} (hC:∀ k,k < gs.length->Cel t C (gs.getD k dG)) (hl:l.length=C) (hp:∀ x,p x<=30) (hb:UpB l B) (hB:B+30 * gs.length<=50000):∀ k,k<=gs.length->UpB (z1V p t.gap s gs l k) (B+30 * (k:Int))
 | 0,_=>by intro i hi;have:=hb i hi;show 0<=l.getD i 0/\l.getD i 0<=_;omega
 | k+1,hk=>by
  have ih:=z82 (s:=s) hC hl hp hb hB k (by omega);have hx:=hC k (by omega);rw [z1V]
  split
  ·obtain ⟨rn,jn,cn,mn,e1,e2,e3,e4,h1,h2,h3,h4,h5⟩:=hx.ex;rw [e3,e4,Int.toNat_natCast,Int.toNat_natCast];have:=zcg ih (by omega) (by rw [z3l,hl];exact h3) ⟨h4,h5⟩ hx.gap (hp (gs.getD k dG)) (c:=cn) (m:=mn);intro i hi;have:=this i hi;omega
  ·intro i hi;have:=ih i hi;omega
theorem z83 {t:T} {C:Nat} {gs:List GC} {p:GC->Int} {l:List Int} (hC:∀ k,k < gs.length->Cel t C (gs.getD k dG)) (h40:gs.length<=40) (hl:l.length=C) (hp:∀ x,p x<=30) (hb:UpB l 0):∀ s,s<=4->UpB (z1l p t.gap gs l s) (1200 * (s:Int))
 | 0,_=>by intro i hi;have:=hb i hi;show 0<=l.getD i 0/\l.getD i 0<=_;omega
 | s+1,hs=>by
  have ih:=z83 hC h40 hl hp hb s (by omega);have:=z82 (s:=((s+1:Nat):Int)) hC (by rw [z3m];exact hl) hp ih (by omega) gs.length (Nat.le_refl _);intro i hi;have:=this i hi;rw [z1l];omega
def LeL (a b:List Int):Prop:=a.length=b.length/\∀ i,i < a.length->a.getD i 0<=b.getD i 0
theorem LeL.refl (a:List Int):LeL a a:=⟨rfl,fun _ _=>Int.le_refl _⟩
theorem LeL.trans {a b c:List Int} (h:LeL a b) (k:LeL b c):LeL a c:=⟨h.1.trans k.1,fun i hi=>Int.le_trans (h.2 i hi) (k.2 i (by rw [<-h.1];exact hi))⟩
theorem LeL.sub {a b:List Int} (h:LeL a b) {c m:Nat} (hc:c+m<=a.length):LeL (z0K a c m) (z0K b c m):=by
 have hb:c+m<=b.length:=(by rw [<-h.1];exact hc);refine ⟨by rw [z1Q hc,z1Q hb],fun i hi=>?_⟩;rw [z1Q hc] at hi;rw [z6T hc hi,z6T hb hi];exact h.2 _ (by omega)
theorem zba:∀ (a b:List Int),a.length=b.length->(List.zipWith (·+·) a b).sum=a.sum+b.sum
 | [],[],_=>by simp
 | [],_ :: _,h=>absurd h (by simp)
 | _ :: _,[],h=>absurd h (by simp)
 | x :: a,y :: b,h=>by
  rw [List.zipWith_cons_cons,List.sum_cons,List.sum_cons,List.sum_cons,zba a b (by simpa using h)];omega
def zgE (l:List Int) (gap:Int) (x:GC):Int:=(z0K l x.col.toNat x.cols.toNat).sum+gap * (x.cols - 1)
theorem zbB {a:Int} (h:-9223372036854775808<=a/\a<=9223372036854775807):IntKind.i64.wrap a=a:=by rw [IntKind.wrap_i64];omega
theorem zaz {cn m C:Nat} (h:cn+(m+1)<=C) (hC:C<=88):(cn:Int)<=(cn:Int)+((m:Int)+1)/\(cn:Int)+((m:Int)+1)<=(C:Int)/\(0:Int)<=(cn:Int)+((m:Int)+1)/\((cn:Int)+((m:Int)+1)).toNat=cn+(m+1)/\cn+(m+1) - cn=m+1/\¬ C=cn/\wrap64 ((cn:Int)+((m:Int)+1))=(cn:Int)+((m:Int)+1)/\IntKind.i64.wrap ((cn:Int)+((m:Int)+1))=(cn:Int)+((m:Int)+1):=by
 have e:-9223372036854775808<=(cn:Int)+((m:Int)+1)/\(cn:Int)+((m:Int)+1)<=9223372036854775807:=(by omega);exact ⟨by omega,by omega,by omega,by omega,by omega,by omega,z5d e,zbB e⟩
def z0u (n:Nat):List Int:=List.replicate n 0
theorem zbb (n:Nat):UpB (z0u n) 0:=by
 intro i hi;simp [z0u] at hi;simp [z0u,List.getD,hi]
def Ws (w:World) (z gb:Nat) (ac ar:Option Addr) (cc cr:Nat) (t:T) (ag:Option Addr) (cg:Nat) (W:World):Prop :=
 Below w.heap.size w W/\TA W z ac ar cc cr t/\W.heap[w.heap.size]?=some (.cells #[.slice ac t.cols.length cc,int i64 t.head,int i64 t.foot,.slice ar t.rows.length cr,int i64 t.gap] 26)/\z2W W w.heap.size (.slice ag (gOf t).cells.length cg) (gOf t).cells/\W.heap[gb]?=some (.cells #[int i64 (gOf t).rows,int i64 (gOf t).cols,.slice ag (gOf t).cells.length cg] 68)
theorem Ws.kept {w W W':World} {z gb:Nat} {ac ar ag:Option Addr} {cc cr cg:Nat} {t:T} (h:Ws w z gb ac ar cc cr t ag cg W) (hb:Below W.heap.size W W'):Ws w z gb ac ar cc cr t ag cg W' :=
 ⟨h.1.trans (hb.mono h.1.size),h.2.1.kept hb,(hb.block _ (bL h.2.2.1)).trans h.2.2.1,h.2.2.2.1.kept hb,(hb.block gb (bL h.2.2.2.2)).trans h.2.2.2.2⟩
theorem Ws.at {w W:World} {z gb:Nat} {ac ar ag:Option Addr} {cc cr cg:Nat} {t:T} (h:Ws w z gb ac ar cc cr t ag cg W):W.cell? ⟨w.heap.size,3,none⟩=some (.slice ar t.rows.length cr)/\W.cell? ⟨w.heap.size,4,none⟩=some (int i64 t.gap)/\W.cell? ⟨gb,1,none⟩=some (int i64 (gOf t).cols)/\W.cell? ⟨gb,2,none⟩=some (.slice ag (gOf t).cells.length cg) :=
 ⟨zf h.2.2.1,zf h.2.2.1,zf h.2.2.2.2,zf h.2.2.2.2⟩
def z1J (ps:List (Int × Int)) (l:List Int):Nat->List Int
 | 0=>l
 | k+1=>if (sd ps k).1=1 then (z1J ps l k).set k (max ((z1J ps l k).getD k 0) (sd ps k).2) else z1J ps l k
theorem z1M (ps:List (Int × Int)) (l:List Int):∀ k,(z1J ps l k).length=l.length
 | 0=>rfl
 | k+1=>by rw [z1J];split;rw [List.length_set];exact z1M ps l k;exact z1M ps l k
theorem z2J (ps:List (Int × Int)) (l:List Int) {i:Nat}:∀ k,k<=i->(z1J ps l k).getD i 0=l.getD i 0
 | 0,_=>rfl
 | k+1,h=>by
  rw [z1J]
  split
  ·rw [<-z2J ps l (i:=i) k (by omega)];simp only [List.getD,List.getElem?_set_ne (show k ≠ i by omega)]
  ·exact z2J ps l k (by omega)
def zbC (ps:List (Int × Int)) (k:Nat) (x:Int):Int:=if (sd ps k).1=1 then max x (sd ps k).2 else x
theorem z9L (ps:List (Int × Int)) (l:List Int) {i:Nat} (hi:i < l.length):∀ k,i < k->(z1J ps l k).getD i 0=zbC ps i (l.getD i 0)
 | k+1,h=>by
  rw [z1J];by_cases e:i=k
  ·subst e;rw [z2J ps l i (Nat.le_refl _)];have hl:i < (z1J ps l i).length:=(by rw [z1M];exact hi);unfold zbC
   split
   ·simp [List.getD,hl]
   ·exact z2J ps l i (Nat.le_refl _)
  ·rw [<-z9L ps l hi k (by omega)]
   split
   ·simp only [List.getD,List.getElem?_set_ne (show k ≠ i by omega)]
   ·rfl
def z2s (t:T) (x:GC):Int:=(z0y (zV (zL t x)):Nat)
def zz (t:T):Nat:=(gOf t).cols.toNat
def z26 (t:T) (p:GC->Int):List Int:=z1l p t.gap (gOf t).cells (z0u (zz t)) 4
def zu (t:T):List Int:=z1J t.cols (z26 t (z2s t)) (zz t)
theorem z2i (t:T) (p:GC->Int):(z26 t p).length=zz t:=by unfold z26;rw [z3m];simp [z0u]
theorem z1b (t:T):(zu t).length=zz t:=by unfold zu;rw [z1M,z2i]
theorem z4y {t:T} {C:Nat} (h:(gOf t).cols=C):zz t=C:=by unfold zz;rw [h];exact Int.toNat_natCast C
theorem z5A {t:T} (hD:z0b t) {p:GC->Int} (hp:∀ x,p x<=30):UpB (z26 t p) 4800:=by
 obtain ⟨h40,C,hgc,hC,hcel⟩:=z3n hD;unfold z26;rw [z4y hgc];exact z83 hcel h40 (by simp [z0u]) hp (zbb _) 4 (by omega)
theorem z9M {t:T} {k:Nat} (hk:k < zz t):(sd t.cols k).1=1->0<=(sd t.cols k).2/\(sd t.cols k).2<=60:=by
 intro h1
 cases h:zq t with
 | false=>unfold zz at hk;rw [z9I h] at hk;exact absurd hk (Nat.not_lt_zero _)
 | true =>
  simp only [zq,z1v,Bool.and_eq_true,List.all_eq_true] at h;by_cases hl:k < t.cols.length
  ·rw [z7t hl] at h1 |-;have:=h.2.2.2.1.2 (t.cols.getD k (0,0)) (by rw [show t.cols.getD k (0,0)=t.cols[k] by simp [List.getD,hl]];exact List.getElem_mem hl);simp only [z1G,decide_eq_true_eq] at this;omega
  ·rw [z9g (z25 (by omega))] at h1;simp at h1
theorem zbD {t:T} {k:Nat} (hk:k < zz t):(zu t).getD k 0=zbC t.cols k ((z26 t (z2s t)).getD k 0):=by
 unfold zu;exact z9L _ _ (by rw [z2i];exact hk) _ hk
theorem z8C (t:T) (x:GC):0<=z2s t x/\z2s t x<=30:=by
 unfold z2s;have:=z5z (zV (zL t x));omega
theorem z2K {t:T} (hD:z0b t):UpB (zu t) 5000:=by
 intro i hi;rw [z1b] at hi;rw [zbD hi];have h1:=z5A hD (fun x=>(z8C t x).2) i (by rw [z2i];exact hi);have h2:=z9M hi;unfold zbC
 split
 ·have:=h2 (by assumption);omega
 ·omega
theorem zcL {t:T}:∀ r ∈ (plT t).rows,∀ x ∈ r.cells,x.c=1/\x.r=1:=fun r hr x hx=>by
 obtain ⟨r0,_,rfl⟩:=List.mem_map.1 hr;obtain ⟨x0,_,rfl⟩:=List.mem_map.1 hx;exact ⟨rfl,rfl⟩
theorem zdJ {t:T} (h:zq t=true) (r:Nat):(t.rows.getD r dR).cells.length<=5:=by
 by_cases hr:r < t.rows.length
 ·simp only [zq,Bool.and_eq_true,List.all_eq_true] at h;have h0:=h.2.2.2.2 _ (List.getElem_mem hr);simp only [z0Y,Bool.and_eq_true,decide_eq_true_eq] at h0;rw [show t.rows.getD r dR=t.rows[r] by simp [List.getD,hr]];exact h0.1
 ·rw [show t.rows.getD r dR=dR by simp [List.getD,hr]];exact Nat.zero_le _
def z2U (a b:List Int):Nat->List Int
 | 0=>a
 | k+1=>(z2U a b k).set k (max (a.getD k 0) (b.getD k 0))
theorem z3d (a b:List Int):∀ k,(z2U a b k).length=a.length
 | 0=>rfl
 | k+1=>by rw [z2U,List.length_set];exact z3d a b k
theorem z8J (a b:List Int) {i:Nat}:∀ k,k<=i->(z2U a b k).getD i 0=a.getD i 0
 | 0,_=>rfl
 | k+1,h=>by
  rw [z2U,<-z8J a b (i:=i) k (by omega)];simp only [List.getD,List.getElem?_set_ne (show k ≠ i by omega)]
theorem z9T (a b:List Int) {i:Nat} (hi:i < a.length):∀ k,i < k->(z2U a b k).getD i 0=max (a.getD i 0) (b.getD i 0)
 | k+1,h=>by
  rw [z2U];by_cases e:i=k
  ·subst e;have hl:i < (z2U a b i).length:=(by rw [z3d];exact hi);simp only [List.getD,List.getElem?_set_self hl,Option.getD_some]
  ·rw [<-z9T a b hi k (by omega)];simp only [List.getD,List.getElem?_set_ne (show k ≠ i by omega)]
def z4n (t:T) (x:GC):Int:=(z41 (zL t x):Nat)
theorem z9U (t:T) (x:GC):0<=z4n t x/\z4n t x<=30:=by
 unfold z4n;have:=z8I (zL t x);omega
def z2n (t:T):List Int:=z2U (z26 t (z4n t)) (zu t) (zz t)
theorem z4Y (t:T):(z2n t).length=zz t:=by unfold z2n;rw [z3d,z2i]
theorem z8K {t:T} {k:Nat} (hk:k < zz t):(z2n t).getD k 0=max ((z26 t (z4n t)).getD k 0) ((zu t).getD k 0):=by
 unfold z2n;exact z9T _ _ (by rw [z2i];exact hk) _ hk
theorem z6Z {t:T} (hD:z0b t):UpB (z2n t) 5000:=by
 intro i hi;rw [z4Y] at hi;rw [z8K hi];have h1:=z5A hD (fun x=>(z9U t x).2) i (by rw [z2i];exact hi);have h2:=z2K hD i (by rw [z1b];exact hi);omega
def zn (t:T) (q:Int) (k:Nat):Bool:=decide ((sd t.cols k).1=q)
def z0p (t:T) (width:Int):Int:=width - ((zu t).sum+t.gap * ((zz t:Int) - 1))
def z1C (t:T) (width:Int) (l:List Int):List Int:=(List.range l.length).map (fun k=>if zn t 2 k=true then max 0 (width * (sd t.cols k).2 / 100 - l.getD k 0) else 0)
def z1D (t:T) (l:List Int):List Int:=(List.range l.length).map (fun k=>if zn t 0 k=true then max 0 ((z2n t).getD k 0 - l.getD k 0) else 0)
def z0R (t:T) (width:Int):List Int:=z1d (zu t) (z0m (z0p t width) (z1C t width (zu t)))
def z1E (t:T) (width:Int):Int:=z23 (z0p t width) (z1C t width (zu t))
def z1i (t:T) (width:Int):List Int:=z1d (z0R t width) (z0m (z1E t width) (z1D t (z0R t width)))
def z24 (t:T) (width:Int):Int:=z23 (z1E t width) (z1D t (z0R t width))
def zQ (t:T) (width:Int):List Int :=
 if z0p t width<=0 then zu t
 else if 0 < (zh (zn t 0) (zz t)).length then z1d (z1i t width) (zo (z24 t width) (z0U (zn t 0) (zz t)))
 else if 0 < (zh (zn t 2) (zz t)).length then z1d (z1i t width) (zo (z24 t width) (z0U (zn t 2) (zz t)))
 else z1i t width
theorem z4L {a b:List Int} (h:b.length=a.length):(z1d a b).length=a.length:=by unfold z1d;rw [List.length_zipWith,h];omega
theorem z70 {a b:List Int} (h:b.length=a.length):(z1d a b).sum=a.sum+b.sum:=zba a b h.symm
theorem z3J {a b:List Int} (h:b.length=a.length) {i:Nat} (hi:i < a.length):(z1d a b).getD i 0=a.getD i 0+b.getD i 0:=by
 have hb:i < b.length:=(by omega);have hz:i < (List.zipWith (·+·) a b).length:=(by rw [List.length_zipWith];omega);unfold z1d;simp only [List.getD,List.getElem?_eq_getElem hi,List.getElem?_eq_getElem hb,List.getElem?_eq_getElem hz,Option.getD_some,List.getElem_zipWith]
theorem z3e (t:T) (width:Int) (l:List Int):(z1C t width l).length=l.length:=by simp [z1C]
theorem z2M (t:T) (l:List Int):(z1D t l).length=l.length:=by simp [z1D]
theorem z42 {t:T} {width:Int} {l:List Int} {k:Nat} (h:k < l.length):(z1C t width l).getD k 0=if zn t 2 k=true then max 0 (width * (sd t.cols k).2 / 100 - l.getD k 0) else 0:=by simp [z1C,List.getD,h]
theorem z43 {t:T} {l:List Int} {k:Nat} (h:k < l.length):(z1D t l).getD k 0=if zn t 0 k=true then max 0 ((z2n t).getD k 0 - l.getD k 0) else 0:=by simp [z1D,List.getD,h]
theorem zbL {t:Int} {l:List Int} (ht:0<=t/\t<=100000) (hl:l.length<=100) (h:∀ i,i < l.length->0<=l.getD i 0/\l.getD i 0<=100000):zt t l=true:=by
 simp only [zt,Bool.and_eq_true,decide_eq_true_eq,List.all_eq_true];refine ⟨⟨by simp only [wtB,decide_eq_true_eq];exact ht,hl⟩,fun x hx=>?_⟩;obtain ⟨i,hi,rfl⟩:=List.mem_iff_getElem.1 hx;have:=h i hi;rw [show l.getD i 0=l[i] by simp [List.getD,hi]] at this;simp only [wtB,decide_eq_true_eq];exact this
theorem z1K {t:Int} {l:List Int} (hok:zt t l=true):(z0m t l).length=l.length/\(z0m t l).sum+z23 t l=t/\0<=z23 t l/\z23 t l<=t/\∀ i,i < l.length->0<=(z0m t l).getD i 0/\(z0m t l).getD i 0<=l.getD i 0:=by
 obtain ⟨ht,hlen,hw⟩:=z09 hok;have hg:∀ i,i < l.length->0<=l.getD i 0:=fun i hi=>(z2Y hw hi).1;by_cases hs:l.sum<=t
 ·rw [(z33 hok hs).1,(z33 hok hs).2];have h0:0<=l.sum:=(z2B hw).1;exact ⟨rfl,by omega,by omega,by omega,fun i hi=>⟨hg i hi,Int.le_refl _⟩⟩
 ·rw [(z2p hok hs).1,(z2p hok hs).2]
  have hpos:0 < l.length:=by
   cases l with
   | nil=>simp at hs;omega
   | cons _ _=>simp
  exact ⟨z17 hok,by rw [z2C hok hpos];omega,Int.le_refl _,ht.1,fun i hi=>zbp hok (by omega) hi⟩
theorem z6t {t:T} {k:Nat} (hk:k < zz t):((sd t.cols k).1=0)\/((sd t.cols k).1=1/\0<=(sd t.cols k).2/\(sd t.cols k).2<=60)\/((sd t.cols k).1=2/\1<=(sd t.cols k).2/\(sd t.cols k).2<=100):=by
 cases h:zq t with
 | false=>unfold zz at hk;rw [z9I h] at hk;exact absurd hk (Nat.not_lt_zero _)
 | true =>
  simp only [zq,z1v,Bool.and_eq_true,List.all_eq_true] at h;by_cases hl:k < t.cols.length
  ·rw [z7t hl];have:=h.2.2.2.1.2 (t.cols.getD k (0,0)) (by rw [show t.cols.getD k (0,0)=t.cols[k] by simp [List.getD,hl]];exact List.getElem_mem hl);simp only [z1G,decide_eq_true_eq] at this;omega
  ·rw [z9g (z25 (by omega))];exact .inl rfl
theorem z7z {width n:Int} (hw:0<=width/\width<=300) (hn:1<=n/\n<=100):0<=width * n / 100/\width * n / 100<=300:=by
 have h1:0<=width * n:=Int.mul_nonneg hw.1 (by omega);have h2:width * n<=300 * 100:=Int.mul_le_mul hw.2 hn.2 (by omega) (by omega);omega
theorem z3f {t:T} (hD:z0b t) (hok:zq t=true) {width:Int} (hw:0<=width/\width<=300) (hr:0 < z0p t width) :
  zt (z0p t width) (z1C t width (zu t))=true/\zt (z1E t width) (z1D t (z0R t width))=true/\(0<=z24 t width/\z24 t width<=300)/\(z0R t width).length=zz t/\(z1i t width).length=zz t/\(z1i t width).sum+z24 t width=(zu t).sum+z0p t width /\
  (∀ k,k < zz t->(zu t).getD k 0<=(z0R t width).getD k 0/\(z0R t width).getD k 0<=(z1i t width).getD k 0/\(zn t 2 k=false->(z0R t width).getD k 0=(zu t).getD k 0)/\(zn t 0 k=false->(z1i t width).getD k 0=(z0R t width).getD k 0)):=by
 obtain ⟨_,C,hgc,hC,hcel⟩:=z3n hD;have hCN:=z4y hgc;have hlen:=z1b t;have hup:=z2K hD;have hsb:=z4v (l:=zu t) (B:=5000) (fun x hx=>hup.mem hx)
 have hC1:1<=zz t:=by
  have h1:(gOf t).cols=z0v (max 1 (t.cols.length:Int)) (zN t):=(by rw [z3k hok]);have h2:=z3b (zN t) (max 1 (t.cols.length:Int));unfold zz;omega
 have hg:0<=t.gap/\t.gap<=3:=by
  simp only [zq,inB,Bool.and_eq_true,decide_eq_true_eq] at hok;exact hok.2.2.1
 have hgap:0<=t.gap * ((zz t:Int) - 1):=Int.mul_nonneg hg.1 (by omega);have hr300:z0p t width<=300:=(by unfold z0p;omega)
 have ok1:zt (z0p t width) (z1C t width (zu t))=true:=zbL (by omega) (by rw [z3e,hlen];omega) (fun i hi=>by
  rw [z3e] at hi;rw [z42 hi];have hu:=hup i hi
  split
  ·rename_i hp
   have hk:=z6t (t:=t) (k:=i) (by rw [<-hlen];exact hi);simp only [zn,decide_eq_true_eq] at hp;have:=z7z hw (n:=(sd t.cols i).2) (by omega);omega
  ·omega)
 obtain ⟨l1,s1,n1,m1,e1⟩:=z1K ok1;rw [z3e] at l1 e1;have ho1:(z0R t width).length=zz t:=(by unfold z0R;rw [z4L l1,hlen]);have g1:∀ k,k < zz t->(z0R t width).getD k 0=(zu t).getD k 0+(z0m (z0p t width) (z1C t width (zu t))).getD k 0:=fun k hk=>by unfold z0R;exact z3J l1 (by rw [hlen];exact hk)
 have hl1:0<=z1E t width/\z1E t width<=300:=(by unfold z1E;omega)
 have ok2:zt (z1E t width) (z1D t (z0R t width))=true:=zbL (by omega) (by rw [z2M,ho1];omega) (fun i hi=>by
  rw [z2M] at hi;rw [z43 hi];have hi':i < zz t:=(by rw [<-ho1];exact hi);have hwu:=z6Z hD i (by rw [z4Y];exact hi');have h3:=g1 i hi';have h4:=hup i (by rw [hlen];exact hi');have h5:=e1 i (by rw [hlen];exact hi')
  split <;> omega)
 obtain ⟨l2,s2,n2,m2,e2⟩:=z1K ok2;rw [z2M] at l2 e2;have ho2:(z1i t width).length=zz t:=(by unfold z1i;rw [z4L l2,ho1]);have g2:∀ k,k < zz t->(z1i t width).getD k 0=(z0R t width).getD k 0+(z0m (z1E t width) (z1D t (z0R t width))).getD k 0:=fun k hk=>by unfold z1i;exact z3J l2 (by rw [ho1];exact hk)
 refine ⟨ok1,ok2,by unfold z24;omega,ho1,ho2,?_,fun k hk=>?_⟩
 ·have a1:(z0R t width).sum=(zu t).sum+(z0m (z0p t width) (z1C t width (zu t))).sum:=(by unfold z0R;exact z70 l1);have a2:(z1i t width).sum=(z0R t width).sum+(z0m (z1E t width) (z1D t (z0R t width))).sum:=(by unfold z1i;exact z70 l2);have a3:z1E t width=z23 (z0p t width) (z1C t width (zu t)):=rfl;have a4:z24 t width=z23 (z1E t width) (z1D t (z0R t width)):=rfl;rw [a2,a1,a4];omega
 ·have b1:=e1 k (by rw [hlen];exact hk);have b2:=e2 k (by rw [ho1];exact hk);rw [z42 (by rw [hlen];exact hk)] at b1;rw [z43 (by rw [ho1];exact hk)] at b2;have c1:=g1 k hk;have c2:=g2 k hk;refine ⟨by omega,by omega,fun h=>?_,fun h=>?_⟩
  ·rw [if_neg (by rw [h];simp)] at b1;omega
  ·rw [if_neg (by rw [h];simp)] at b2;omega
theorem z9Y {P:Nat->Bool} {n:Nat}:(z0U P n).sum=((zh P n).length:Int):=by
 have hz:∀ i,i < (z0U P n).length->P i=false->(z0U P n).getD i 0=0:=fun i hi hP=>by
  rw [z1o] at hi;rw [z4K hi,if_neg (by rw [hP];simp)]
 have:=z3I (l:=z0U P n) (P:=P) (z0U P n).length (Nat.le_refl _) hz;rw [z12,z1o,z88,z4A] at this;exact this.symm
theorem z4Z {P:Nat->Bool} {n:Nat} (h:¬ 0 < (zh P n).length) {k:Nat} (hk:k < n):P k=false:=by
 cases hP:P k with
 | false=>rfl
 | true =>
  have:k ∈ zh P n:=(by unfold zh;rw [List.mem_filter];exact ⟨List.mem_range.2 hk,hP⟩);exact absurd (List.length_pos_of_mem this) h
theorem z7A {P:Nat->Bool} {n:Nat} {t:Int} {l:List Int} (hl:l.length=n) (hn:n<=100) (ht:0<=t/\t<=300) (h0:0 < (zh P n).length) :
  (z1d l (zo t (z0U P n))).length=n/\(z1d l (zo t (z0U P n))).sum=l.sum+t/\∀ k,k < n->l.getD k 0<=(z1d l (zo t (z0U P n))).getD k 0/\(P k=false->(z1d l (zo t (z0U P n))).getD k 0=l.getD k 0):=by
 have hok:=z6s P (n:=n) (t:=t) (by omega) hn;have hs:=z17 hok;rw [z1o] at hs
 have hpos:0 < n:=by
  have:=(z2o h0).1;omega
 refine ⟨by rw [z4L (by rw [hs,hl]),hl],by rw [z70 (by rw [hs,hl]),z2C hok (by rw [z1o];exact hpos)],fun k hk=>?_⟩;rw [z3J (by rw [hs,hl]) (by rw [hl];exact hk)];have h1:=z1y (t:=t) (l:=z0U P n) k (by rw [hs];exact hk);refine ⟨by omega,fun hP=>?_⟩;rw [z4e hok (by rw [z9Y];omega) (by rw [z1o];exact hk) (by rw [z4K hk,if_neg (by rw [hP];simp)])];omega
def z6c (t:T):Bool:=(List.range (zz t)).all (fun k=>zn t 1 k)
theorem z8O {t:T} (hD:z0b t) (hok:zq t=true) {width:Int} (hw:0<=width/\width<=300) :
  (zQ t width).length=zz t/\(zQ t width).sum+t.gap * ((zz t:Int) - 1)=(if width < (zu t).sum+t.gap * ((zz t:Int) - 1)\/z6c t=true then (zu t).sum+t.gap * ((zz t:Int) - 1) else width) /\
  ∀ k,k < zz t->(zu t).getD k 0<=(zQ t width).getD k 0/\(zn t 1 k=true->(zQ t width).getD k 0=(zu t).getD k 0):=by
 obtain ⟨_,C,hgc,hC,hcel⟩:=z3n hD;have hCN:=z4y hgc
 have hk1:∀ k,zn t 1 k=true->zn t 0 k=false/\zn t 2 k=false:=fun k h=>by
  simp only [zn,decide_eq_true_eq] at h;simp [zn,h]
 by_cases hr:z0p t width<=0
 ·have e:zQ t width=zu t:=(by unfold zQ;rw [if_pos hr]);rw [e];refine ⟨z1b t,?_,fun k _=>⟨Int.le_refl _,fun _=>rfl⟩⟩;unfold z0p at hr
  split
  ·rfl
  ·rename_i hn
   have:¬ width < (zu t).sum+t.gap * ((zz t:Int) - 1):=fun h=>hn (.inl h);omega
 ·obtain ⟨_,_,hl2,_,ho2,hsum,hk⟩:=z3f hD hok hw (by omega);have hrr:z0p t width=width - ((zu t).sum+t.gap * ((zz t:Int) - 1)):=rfl;have hnl:¬ width < (zu t).sum+t.gap * ((zz t:Int) - 1):=(by omega);by_cases h0:0 < (zh (zn t 0) (zz t)).length
  ·have e:zQ t width=z1d (z1i t width) (zo (z24 t width) (z0U (zn t 0) (zz t))):=(by unfold zQ;rw [if_neg hr,if_pos h0]);obtain ⟨a1,a2,a3⟩:=z7A ho2 (by omega) hl2 h0
   have hnf:¬ z6c t=true:=fun h=>by
    have hg:=z2o h0;have:=List.all_eq_true.1 h _ (List.mem_range.2 hg.1);have:=(hk1 _ this).1;rw [hg.2] at this
    cases this
   rw [e];refine ⟨a1,?_,fun k hkk=>?_⟩
   ·rw [if_neg (by rintro (h | h);exact hnl h;exact hnf h),a2];omega
   ·have b1:=a3 k hkk;have b2:=hk k hkk;refine ⟨by omega,fun h=>?_⟩;have c:=hk1 k h;rw [b1.2 c.1,b2.2.2.2 c.1,b2.2.2.1 c.2]
  ·by_cases h2:0 < (zh (zn t 2) (zz t)).length
   ·have e:zQ t width=z1d (z1i t width) (zo (z24 t width) (z0U (zn t 2) (zz t))):=(by unfold zQ;rw [if_neg hr,if_neg h0,if_pos h2]);obtain ⟨a1,a2,a3⟩:=z7A ho2 (by omega) hl2 h2
    have hnf:¬ z6c t=true:=fun h=>by
     have hg:=z2o h2;have:=List.all_eq_true.1 h _ (List.mem_range.2 hg.1);have:=(hk1 _ this).2;rw [hg.2] at this
     cases this
    rw [e];refine ⟨a1,?_,fun k hkk=>?_⟩
    ·rw [if_neg (by rintro (h | h);exact hnl h;exact hnf h),a2];omega
    ·have b1:=a3 k hkk;have b2:=hk k hkk;refine ⟨by omega,fun h=>?_⟩;have c:=hk1 k h;rw [b1.2 c.2,b2.2.2.2 c.1,b2.2.2.1 c.2]
   ·have e:zQ t width=z1i t width:=(by unfold zQ;rw [if_neg hr,if_neg h0,if_neg h2])
    have hfx:z6c t=true:=List.all_eq_true.2 (fun k hkr=>by
     have hkk:=List.mem_range.1 hkr;have n0:=z4Z h0 hkk;have n2:=z4Z h2 hkk;have:=z6t hkk;simp only [zn,decide_eq_false_iff_not] at n0 n2;simp only [zn,decide_eq_true_eq]
     omega)
    have heq:z1i t width=zu t:=by
     apply List.ext_getElem (by rw [ho2,z1b]);intro i h1 h3;have hi:i < zz t:=(by rw [ho2] at h1;exact h1);have b:=hk i hi;have:=(b.2.2.2 (z4Z h0 hi)).trans (b.2.2.1 (z4Z h2 hi))
     simpa [List.getD,h1,h3] using this
    rw [e,heq];refine ⟨z1b t,by rw [if_pos (.inr hfx)],fun k _=>⟨Int.le_refl _,fun _=>rfl⟩⟩
def za2 (x:GC) (l:List ByteArray):z07:=(x.row.toNat,x.rows.toNat,(l.length:Int))
def rcs (gs:List GC) (ls:List (List ByteArray)):List z07:=List.zipWith za2 gs ls
theorem z8a {gs:List GC} {ls:List (List ByteArray)} (h:ls.length=gs.length):(rcs gs ls).length=gs.length:=by rw [rcs,List.length_zipWith,h,Nat.min_self]
theorem z6v {gs:List GC} {ls:List (List ByteArray)} (h:ls.length=gs.length) {k:Nat} (hk:k < gs.length):(rcs gs ls)[k]?=some (za2 (gs.getD k dG) (ls.getD k [])):=by
 have hk2:k < ls.length:=(by omega);simp [rcs,List.getElem?_zipWith,List.getD,hk,hk2]
theorem zeV {gs:List GC} {ls:List (List ByteArray)} (h:ls.length=gs.length) {p:z07->Prop} (hp:∀ k,k < gs.length->p (za2 (gs.getD k dG) (ls.getD k []))):∀ c ∈ rcs gs ls,p c:=by
 intro c hc;obtain ⟨k,hk,e⟩:=List.mem_iff_getElem.mp hc;have hk2:k < gs.length:=(by rw [z8a h] at hk;exact hk);have:=z6v h hk2;rw [List.getElem?_eq_getElem hk,e] at this;rw [Option.some.inj this];exact hp k hk2
def z2x (cs:List z07) (r k:Nat):Int:=(cs.take k).foldl (z0D (zF cs r)) 0
def hsL (cs:List z07) (R r k:Nat):List Int:=zF cs r ++ (z2x cs r k :: z0u (R - (r+1)))
theorem zbg (cs:List z07) {R r:Nat} (k:Nat) (h:r < R):(hsL cs R r k).length=R:=by
 simp [hsL,z00,z0u];omega
theorem zdQ (cs:List z07) {R r:Nat} (h:r < R):zF cs r ++ z0u (R - r)=hsL cs R r 0:=by
 rw [hsL,show R - r=(R - (r+1))+1 by omega,z0u,List.replicate_succ];rfl
theorem zbh (cs:List z07) (R r:Nat):hsL cs R r cs.length=zF cs (r+1) ++ z0u (R - (r+1)):=by
 rw [hsL,z2x,List.take_length,zF,List.append_assoc];rfl
theorem zeW (cs:List z07) (R r k:Nat):(hsL cs R r k).getD r 0=z2x cs r k:=by
 rw [hsL,List.getD_eq_getElem?_getD,List.getElem?_append_right (by rw [z00];exact Nat.le_refl _),z00,Nat.sub_self];rfl
theorem zeX (cs:List z07) (R r k:Nat) (y:Int):(hsL cs R r k).set r y=zF cs r ++ (y :: z0u (R - (r+1))):=by
 rw [hsL,List.set_append_right _ _ (by rw [z00];exact Nat.le_refl _),z00,Nat.sub_self];rfl
theorem za3 {cs:List z07} {r k:Nat} {c:z07} (h:cs[k]?=some c):z2x cs r (k+1)=z0D (zF cs r) (z2x cs r k) c:=by
 rw [z2x,List.take_add_one,h,List.foldl_append];rfl
theorem zdR {cs:List z07} {R r k:Nat} {c:z07} (h:cs[k]?=some c) (he:c.1+c.2.1 ≠ r+1):hsL cs R r (k+1)=hsL cs R r k:=by
 rw [hsL,za3 h,z0D,if_neg (by rw [z00];exact he),hsL]
theorem zdS {cs:List z07} {R r k:Nat} {c:z07} (h:cs[k]?=some c) (he:c.1+c.2.1=r+1):hsL cs R r (k+1)=(hsL cs R r k).set r (max (z2x cs r k) (c.2.2 - ((zF cs r).sum - zx (zF cs r) c.1))):=by
 rw [zeX,hsL,za3 h,z0D,if_pos (by rw [z00];exact he)]
theorem z8R {cs:List z07} {M:Int} (hM:0<=M) (hc:∀ c ∈ cs,c.2.2<=M) (r k:Nat):0<=z2x cs r k/\z2x cs r k<=M:=by
 refine ⟨z6u _ _ 0,za1 _ _ 0 (fun c h2=>?_) hM⟩;have h3:=z89 (z4z cs r) c.1;have h4:=hc c (List.mem_of_mem_take h2);omega
theorem z8b:∀ {l:List Int},(∀ x ∈ l,0<=x/\x<=1000)->l.sum<=1000 * (l.length:Int)
 | [],_=>by simp
 | y :: l,h=>by
  have h1:=h y (List.mem_cons_self ..);have h2:=z8b (l:=l) (fun x hx=>h x (List.mem_cons_of_mem _ hx));simp only [List.sum_cons,List.length_cons];omega
def z48 (t:T) (width:Int):List Int:=if (zq t && inB width 0 300)=true then zQ t width else []
def z5F (t:T) (l:List Int) (x:GC):List ByteArray:=z08 (z0Q (z2z l t.gap x) (zV (zL t x)))
def z0I (t:T) (l:List Int) (gs:List GC):List (List ByteArray):=gs.map (z5F t l)
def z13 (t:T) (width:Int):List (List ByteArray):=if (zq t && inB width 0 300)=true then z0I t (zQ t width) (gOf t).cells else []
theorem zcU (l:List Int) (gap:Int) (x:GC):-9223372036854775808<=z2z l gap x/\z2z l gap x<=9223372036854775807:=by
 unfold z2z z1F
 split
 ·omega
 ·exact zdp _
theorem z3q (t:T) (l:List Int) (gs:List GC):(z0I t l gs).length=gs.length:=by simp [z0I]
theorem z5G (t:T) (l:List Int) {gs:List GC} {k:Nat} (h:k < gs.length):(z0I t l gs).getD k []=z5F t l (gs.getD k dG):=by simp [z0I,List.getD,h]
theorem zaG (t:T) (l:List Int) {gs:List GC} {k:Nat} (h:k < gs.length):(z0I t l gs).take (k+1)=(z0I t l gs).take k ++ [z5F t l (gs.getD k dG)]:=by
 rw [List.take_succ_eq_append_getElem (by rw [z3q];exact h)];simp [z0I,List.getD,h]
theorem zcV (t:T) (l:List Int) (x:GC):(z5F t l x).length<=31:=by
 have h1:=(zcR (z2z l t.gap x) (zV (zL t x))).1;have h2:=z7v (zL t x);unfold z5F;omega
theorem zbO (t:T) (l:List Int) (x:GC):∀ y ∈ z5F t l x,y.size<=maxLen:=by
 refine zeY (n:=maxLen) ?_ _ (fun y _=>?_)
 ·have:=(zcU l t.gap x).2;unfold maxLen;omega
 ·have:=y.2.2;unfold maxLen;omega
theorem zaH (t:T) (l:List Int) (gs:List GC):∀ k ∈ z0I t l gs,∀ y ∈ k,y.size<=maxLen:=by
 intro k hk y hy;obtain ⟨x,_,rfl⟩:=List.mem_map.1 hk;exact zbO t l x y hy
def z3K (t:T) (l:List Int):List Int:=zF (rcs (gOf t).cells (z0I t l (gOf t).cells)) t.rows.length
def z0Z (t:T) (width:Int):List Int:=if (zq t && inB width 0 300)=true then z3K t (zQ t width) else []
theorem zfX {t:T} (hok:zq t=true):(gOf t).rows=(t.rows.length:Nat):=by rw [z3k hok]
theorem zes {t:T} (hD:z0b t) (hok:zq t=true):∀ k,k < (gOf t).cells.length->∃ a m:Nat,((gOf t).cells.getD k dG).row=a/\((gOf t).cells.getD k dG).rows=m/\1<=m/\a+m<=t.rows.length:=by
 intro k hk;have hl:=z4I hok hD;rw [z3k hok] at hk |-;have hs:=z3Z hl (z1L (d:=dG) (show k < (zN t).length from hk));unfold z19 at hs;exact ⟨((zN t).getD k dG).row.toNat,((zN t).getD k dG).rows.toNat,by show ((zN t).getD k dG).row=_;omega,by show ((zN t).getD k dG).rows=_;omega,by omega,by omega⟩
theorem zet {t:T} (hD:z0b t) (hok:zq t=true) (j:Nat):∀ k,j<=k->k < (gOf t).cells.length->((gOf t).cells.getD j dG).row<=((gOf t).cells.getD k dG).row
 | 0,h,_=>by
  obtain rfl:j=0:=by omega
  exact Int.le_refl _
 | k+1,h,hk=>by
  rcases Nat.lt_or_ge k j with h1 | h1
  ·obtain rfl:j=k+1:=by omega
   exact Int.le_refl _
  ·have ih:=zet hD hok j k h1 (by omega);have hl:=z4I hok hD;have hk':k+1 < (zN t).length:=(by rw [z3k hok] at hk;exact hk);have ha:=(zb9 hl hk').after (by omega);rw [z3k hok] at ih |-;have e1:(⟨(t.rows.length:Int),z0v (max 1 (t.cols.length:Int)) (zN t),zN t⟩:G).cells=zN t:=rfl;rw [e1] at ih |-;have e2:k+1 - 1=k:=(by omega);rw [e2] at ha;omega
theorem zgg {t:T} (hD:z0b t):(gOf t).cells.length<=40:=(z3n hD).1
theorem zeu {t:T} (hD:z0b t) (hok:zq t=true):t.rows.length<=8:=(z4I hok hD).rows
theorem zev (t:T) (l:List Int) (gs:List GC):∀ k,k < gs.length->((z0I t l gs).getD k []).length<=1000:=fun k hk=>by
 rw [z5G t l hk];have:=zcV t l (gs.getD k dG);omega
theorem zbP (t:T) (l:List Int) (gs:List GC):∀ c ∈ rcs gs (z0I t l gs),c.2.2<=1000:=zeV (z3q t l gs) (fun k hk=>by have:=zev t l gs k hk;show (((z0I t l gs).getD k []).length:Int)<=1000;omega)
theorem z6g {l:List Int} {x:GC} {a m:Nat} (hr:x.row=a) (hm:x.rows=m) (h1:1<=m) (h2:a+m<=l.length) (hb:-9223372036854775808<=zx l (a+m) - zx l a/\zx l (a+m) - zx l a<=9223372036854775807):z3r l x=zx l (a+m) - zx l a:=by
 obtain ⟨e1,e2⟩:=za6 (l:=l) (x:=za7 x) (c:=a) (m:=m) hr hm l.length (Nat.le_refl _);have e3:min l.length (a+m)=a+m:=(by omega);have e4:min l.length a=a:=(by omega);rw [e3,e4] at e2;unfold z3r z2z;rw [z3W (by rw [e1];omega),e2,Int.zero_mul,Int.add_zero,z5d hb]
theorem zfy (cs:List z07) (R r k:Nat) {a:Nat} (ha:a<=r):zx (hsL cs R r k) (r+1) - zx (hsL cs R r k) a=(zF cs r).sum - zx (zF cs r) a+z2x cs r k:=by
 have h1:zx (hsL cs R r k) a=zx (zF cs r) a:=by
  rw [zx,zx,hsL,List.take_append_of_le_length (by rw [z00];exact ha)]
 have h2:zx (hsL cs R r k) (r+1)=(zF cs r).sum+z2x cs r k:=by
  rw [zx,hsL,List.take_append,z00,show r+1 - r=1 by omega,List.take_of_length_le (by rw [z00];omega)];simp
 rw [h1,h2];omega
theorem zbj {cs:List z07} (hc:∀ c ∈ cs,c.2.2<=1000) {r:Nat} (hr:r<=88) (a:Nat):0<=(zF cs r).sum - zx (zF cs r) a/\(zF cs r).sum - zx (zF cs r) a<=88000:=by
 refine ⟨z89 (z4z cs r) a,?_⟩;have h1:(zF cs r).sum=((zF cs r).take a).sum+((zF cs r).drop a).sum:=(by rw [<-List.sum_append,List.take_append_drop]);have h2:=z8b (l:=(zF cs r).drop a) (fun x hx=>⟨z4z cs r x (List.mem_of_mem_drop hx),z71 (by omega) cs hc r x (List.mem_of_mem_drop hx)⟩);rw [List.length_drop,z00] at h2;rw [zx];omega
theorem zf0 {cs:List z07} (hc:∀ c ∈ cs,c.2.2<=1000) {R r k:Nat} (hR:R<=88) (hr:r < R) {x:GC} {a m:Nat} (hrx:x.row=a) (hmx:x.rows=m) (h1:1<=m) (h2:a+m=r+1):z3r (hsL cs R r k) x=(zF cs r).sum - zx (zF cs r) a+z2x cs r k:=by
 have hs:=zfy cs R r k (show a<=r by omega);have hb:=zbj hc (r:=r) (by omega) a;have hcb:=z8R (by omega) hc r k;rw [<-h2] at hs;rw [z6g hrx hmx h1 (by rw [zbg cs k hr];omega) (by rw [hs];omega),hs]
theorem zf1 {cs:List z07} {R r k:Nat} (h:∀ j,k<=j->j < cs.length->∀ c,cs[j]?=some c->r < c.1/\1<=c.2.1):hsL cs R r k=hsL cs R r cs.length:=by
 have e:z2x cs r cs.length=z2x cs r k:=by
  rw [z2x,List.take_length,z2x];have h2:∀ f:Int->z07->Int,cs.foldl f 0=(cs.drop k).foldl f ((cs.take k).foldl f 0):=fun f=>by rw [<-List.foldl_append,List.take_append_drop]
  rw [h2];refine z8Q _ _ _ (fun c hc=>?_);rw [z00];obtain ⟨i,hi,e⟩:=List.mem_iff_getElem.mp hc;rw [List.length_drop] at hi;refine h (k+i) (by omega) (by omega) c ?_;rw [List.getElem?_eq_getElem (by omega),<-e,List.getElem_drop]
 rw [hsL,hsL,e]
theorem z6M {l:List Int} (h:∀ x ∈ l,0<=x/\x<=1000) (k:Nat):0<=zx l k/\zx l k<=1000 * (l.length:Int):=by
 have h1:=z7B (l:=l.take k) (fun x hx=>(h x (List.mem_of_mem_take hx)).1);have h2:=z8b (l:=l.take k) (fun x hx=>h x (List.mem_of_mem_take hx));rw [List.length_take] at h2;rw [zx];omega
theorem z5H {cs:List z07} (hc:∀ c ∈ cs,c.2.2<=1000) (R:Nat):∀ x ∈ zF cs R,0<=x/\x<=1000:=fun x hx=>⟨z4z cs R x hx,z71 (by omega) cs hc R x hx⟩
theorem z8T {cs:List z07} (hc:∀ c ∈ cs,c.2.2<=1000) {R:Nat} (hR:R<=88) {x:GC} {a m:Nat} (hr:x.row=a) (hm:x.rows=m) (h1:1<=m) (h2:a+m<=R):z3r (zF cs R) x=zx (zF cs R) (a+m) - zx (zF cs R) a:=by
 have s1:=z6M (z5H hc R) (a+m);have s2:=z6M (z5H hc R) a;rw [z00] at s1 s2;exact z6g hr hm h1 (by rw [z00];exact h2) (by omega)
theorem z8U {t:T} {x:Int} (hp:(z0Z t x).length ≠ 0):zq t=true/\(0<=x/\x<=300)/\z0Z t x=z3K t (zQ t x)/\z13 t x=z0I t (zQ t x) (gOf t).cells:=by
 unfold z0Z at hp;unfold z0Z z13;by_cases h:(zq t && inB x 0 300)=true
 ·rw [if_pos h,if_pos h];rw [Bool.and_eq_true] at h;exact ⟨h.1,by simpa [inB] using h.2,rfl,rfl⟩
 ·rw [if_neg h] at hp;exact absurd rfl hp
structure HgF (t:T) (RL:List Int) (LL:List (List ByteArray)):Prop where
 len:RL.length=t.rows.length
 lln:LL.length=(gOf t).cells.length
 hold:∀ k,k < (gOf t).cells.length->¬ z3r RL ((gOf t).cells.getD k dG) < ((LL.getD k []).length:Int)
 need:∀ r,r < t.rows.length->RL.getD r 0=0\/∃ k,k < (gOf t).cells.length/\(r:Int)=((gOf t).cells.getD k dG).row+((gOf t).cells.getD k dG).rows - 1/\z3r RL ((gOf t).cells.getD k dG)=((LL.getD k []).length:Int)
 small:∀ k,k < (gOf t).cells.length->(0<=((gOf t).cells.getD k dG).row/\((gOf t).cells.getD k dG).row<=8)/\1<=((gOf t).cells.getD k dG).rows/\((gOf t).cells.getD k dG).rows<=8
theorem z8V {t:T} (hD:z0b t) {x:Int} (hp:(z0Z t x).length ≠ 0):HgF t (z0Z t x) (z13 t x):=by
 obtain ⟨hok,hx,e1,e2⟩:=z8U hp;rw [e1,e2];have h8:=zeu hD hok;have hll:=z3q t (zQ t x) (gOf t).cells;have hrc:=zbP t (zQ t x) (gOf t).cells;have hcell:=zes hD hok
 have hg:∀ k,k < (gOf t).cells.length->∃ a m:Nat,((gOf t).cells.getD k dG).row=a/\((gOf t).cells.getD k dG).rows=m/\1<=m/\a+m<=t.rows.length/\(rcs (gOf t).cells (z0I t (zQ t x) (gOf t).cells))[k]?=some (a,m,(((z0I t (zQ t x) (gOf t).cells).getD k []).length:Int)):=fun k hk=>by
  obtain ⟨a,m,f1,f2,f3,f4⟩:=hcell k hk;refine ⟨a,m,f1,f2,f3,f4,?_⟩;rw [z6v hll hk,za2,f1,f2,Int.toNat_natCast,Int.toNat_natCast]
 have hlr:=z8a hll;unfold z3K;generalize z0I t (zQ t x) (gOf t).cells=ls at hll hrc hg hlr |-;generalize rcs (gOf t).cells ls=cs at hrc hg hlr |-;refine ⟨z00 cs _,hll,fun k hk=>?_,fun r hr=>?_,fun k hk=>?_⟩
 ·obtain ⟨a,m,f1,f2,f3,f4,f5⟩:=hg k hk;rw [z8T hrc (by omega) f1 f2 f3 f4];have:=zcP (cs:=cs) (n:=t.rows.length) (List.mem_of_getElem? f5) f3 f4;dsimp only at this;omega
 ·have hp:∀ c ∈ cs,1<=c.2.1:=fun c hc=>by
   obtain ⟨k,hk,e⟩:=List.mem_iff_getElem.mp hc;obtain ⟨a,m,f1,f2,f3,f4,f5⟩:=hg k (by omega);rw [List.getElem?_eq_getElem hk,e] at f5;rw [Option.some.inj f5];exact f3
  rcases zcQ hp hr with h1 | ⟨c,hc,h1,h2⟩
  ·exact .inl h1
  ·obtain ⟨k,hk,e⟩:=List.mem_iff_getElem.mp hc;obtain ⟨a,m,f1,f2,f3,f4,f5⟩:=hg k (by omega);rw [List.getElem?_eq_getElem hk,e] at f5;have e5:=Option.some.inj f5;rw [e5] at h1 h2;dsimp only at h1 h2;refine .inr ⟨k,by omega,by rw [f1,f2];omega,?_⟩;rw [z8T hrc (by omega) f1 f2 f3 f4,h1];exact h2
 ·obtain ⟨a,m,f1,f2,f3,f4,f5⟩:=hg k hk;rw [f1,f2];omega
def zfY (P:Nat->Bool) (b:Bool):Nat->Bool
 | 0=>b
 | k+1=>zfY P b k || P k
theorem za8:∀ (l:List W30) (n:Nat),n<=l.foldl (fun n x=>max n x.1.size) n
 | [],n=>Nat.le_refl n
 | x :: l,n=>Nat.le_trans (Nat.le_max_left n x.1.size) (za8 l (max n x.1.size))
theorem zcW {s:ByteArray} (hok:zC s=true) (hp:0 < s.size):1<=z0y (zV s):=by
 obtain ⟨_,_,_,h4,_⟩:=z4k hok hp (z4j hok);have hv:=z8B hok;rw [z1W hp] at hv
 cases hw:zV s with
 | nil=>rw [hw] at hv;cases hv
 | cons x l =>
  rw [hw,List.map_cons] at hv;have e:=(List.cons.inj hv).1;have:=za8 l (max 0 x.1.size);rw [<-e] at h4;show 1<=l.foldl (fun n x=>max n x.1.size) (max 0 x.1.size);omega
theorem zdW {s:ByteArray} (hok:zC s=true) (hp:0 < s.size) (h30:s.size+2<=30):z0y (zV (s ++ maB))=z0y (zV s):=by
 have:=zcW hok hp;have e:maW.1.size=1:=rfl;rw [z9S hok hp h30,z67,e];omega
theorem zdX (q:Int) (ws:List W30) (x:W30):(z08 (z0Q q ws)).length<=(z08 (z0Q q (ws ++ [x]))).length:=by
 rw [z8G];generalize z0Q q ws=st;unfold z08 zZ;by_cases h:0 < st.2.size
 ·rw [if_pos h,if_pos h]
  split
  ·simp only
   split <;> simp
  ·simp only;rw [if_pos (by rw [ByteArray.size_append,ByteArray.size_append];omega)];simp
 ·rw [if_neg h,if_neg h];simp only
  split <;> simp
theorem za9 {l:List Int} (hb:∀ y ∈ l,0<=y/\y<=1000) {x:GC} {a:Nat} (hr:x.row=a) (hm:x.rows=1) (ha:a < l.length):z3r l x=l.getD a 0:=by
 have e:=z0E (l:=l) (k:=a) ha
 have hm2:l.getD a 0 ∈ l:=by
  rw [show l.getD a 0=l[a] by simp [List.getD,ha]];exact List.getElem_mem ha
 have:=hb _ hm2;rw [z6g (m:=1) hr (by rw [hm];rfl) (Nat.le_refl _) (by omega) (by rw [e];omega),e];omega
theorem zf2 {t:T} {r a:Nat} (hr:r < t.rows.length) (ha:a < (t.rows.getD r dR).cells.length) (s:ByteArray) (x:GC):zL (txT t r a s) x=if x.row.toNat=r/\x.ins.toNat=a then s else zL t x:=by
 unfold zL;rw [z87];by_cases h1:x.row.toNat=r
 ·rw [if_pos ⟨h1,hr⟩,h1];by_cases h2:x.ins.toNat=a
  ·rw [if_pos ⟨rfl,h2⟩,h2,List.getD_eq_getElem?_getD,List.getElem?_set_self ha];rfl
  ·rw [if_neg (fun h=>h2 h.2),List.getD_eq_getElem?_getD,List.getElem?_set_ne (fun e=>h2 e.symm),<-List.getD_eq_getElem?_getD]
 ·rw [if_neg (fun h=>h1 h.1),if_neg (fun h=>h1 h.1)]
theorem zbk {t:T} {x:Int}:∀ y ∈ z0Z t x,0<=y/\y<=1000:=by
 intro y hy;have hne:(z0Z t x).length ≠ 0:=fun h=>by rw [List.eq_nil_of_length_eq_zero h] at hy;cases hy
 obtain ⟨hok,_,e,_⟩:=z8U hne;rw [e] at hy;exact z5H (zbP t (zQ t x) (gOf t).cells) t.rows.length y hy
theorem zaa {t:T} (hD:z0b t) (hok:zq t=true):zQ t 0=zu t:=by
 have hup:=z2K hD;have hs:=z7B (l:=zu t) (fun x hx=>(hup.mem hx).1)
 have hgap:0<=t.gap/\t.gap<=3:=by
  have h:=hok;simp only [zq,inB,Bool.and_eq_true,decide_eq_true_eq] at h;exact h.2.2.1
 have hC1:1<=(zz t:Int):=by
  have h1:(gOf t).cols=z0v (max 1 (t.cols.length:Int)) (zN t):=(by rw [z3k hok]);have h2:=z3b (zN t) (max 1 (t.cols.length:Int));unfold zz;omega
 have hm:=Int.mul_nonneg hgap.1 (by omega:(0:Int)<=(zz t:Int) - 1);unfold zQ;rw [if_pos];unfold z0p;omega
structure HmF (t x:T) (r:Nat) (a b:List Int):Prop where
 least:zu x=zu t
 len:b.length=a.length
 more:∀ k,k < a.length->a.getD k 0<=b.getD k 0/\(k ≠ r->b.getD k 0=a.getD k 0)
theorem zdY {t:T} (hD:z0b t) (hok:zq t=true) (hp1:∀ r ∈ t.rows,∀ x ∈ r.cells,x.c=1/\x.r=1) {r a:Nat} (hr:r < t.rows.length) (ha:a < (t.rows.getD r dR).cells.length) {s:ByteArray} (hs0:((t.rows.getD r dR).cells.getD a dC).s=s) (hs:zC s=true) (hp:0 < s.size) (h30:s.size+2<=30) :
  HmF t (txT t r a (s ++ maB)) r (z0Z t 0) (z0Z (txT t r a (s ++ maB)) 0):=by
 have hs':=zbI hs hp h30;have hG:=zeN hok hr ha hs';have hokx:=zcK hok hr ha hs';have hDx:=z8F hD (r:=r) ha (s:=s ++ maB) (by rw [z1B];omega);have hl:=z4I hok hD;have hP:=z8D hl hp1 (zdJ hok) t.rows.length (Nat.le_refl _);have hgo:(gOf t).cells=zN t:=(by rw [z3k hok])
 have h1:∀ k,k < (gOf t).cells.length->((gOf t).cells.getD k dG).rows=1:=fun k hk=>by
  have e:(gOf t).cells.getD k dG ∈ (gOf t).cells:=by
   rw [show (gOf t).cells.getD k dG=(gOf t).cells[k] by simp [List.getD,hk]];exact List.getElem_mem hk
  have e2:∀ x ∈ (gOf t).cells,x ∈ z03 t t.rows.length:=fun x hx=>by rw [hgo] at hx;exact hx
  exact (hP.each _ (e2 _ e)).1
 have htx:=fun x=>zf2 hr ha (s ++ maB) x
 have hsx:∀ x:GC,x.row.toNat=r/\x.ins.toNat=a->zL t x=s:=fun x hx=>by
  unfold zL;rw [hx.1,hx.2];exact hs0
 have hlp:z2s (txT t r a (s ++ maB))=z2s t:=by
  funext x
  unfold z2s;rw [htx]
  split
  ·rename_i h
   rw [hsx x h,zdW hs hp h30]
  ·rfl
 have hle:zu (txT t r a (s ++ maB))=zu t:=by
  unfold zu z26;have hN:zz (txT t r a (s ++ maB))=zz t:=(by unfold zz;rw [hG]);rw [hlp,hG,hN];rfl
 have hwx:zQ (txT t r a (s ++ maB)) 0=zQ t 0:=(by rw [zaa hDx hokx,zaa hD hok,hle]);have hin:inB 0 0 300=true:=(by decide);have e1:z0Z t 0=z3K t (zQ t 0):=(by unfold z0Z;rw [hok,hin];rfl);have e2:z0Z (txT t r a (s ++ maB)) 0=z3K (txT t r a (s ++ maB)) (zQ t 0):=(by unfold z0Z;rw [hokx,hin,hwx];rfl);have l1:(z0Z t 0).length=t.rows.length:=(by rw [e1];exact z00 _ _);have l2:(z0Z (txT t r a (s ++ maB)) 0).length=t.rows.length:=(by rw [e2];exact (z00 _ _).trans (z3H _ _ _ _));have F1:=z8V hD (x:=0) (by omega);have F2:=z8V hDx (x:=0) (by omega);have k1:z13 t 0=z0I t (zQ t 0) (gOf t).cells:=(by unfold z13;rw [hok,hin];rfl);have k2:z13 (txT t r a (s ++ maB)) 0=z0I (txT t r a (s ++ maB)) (zQ t 0) (gOf t).cells:=(by unfold z13;rw [hokx,hin,hwx,hG];rfl)
 have hln:∀ k,k < (gOf t).cells.length->((z13 t 0).getD k []).length<=((z13 (txT t r a (s ++ maB)) 0).getD k []).length/\(((gOf t).cells.getD k dG).row.toNat ≠ r->((z13 (txT t r a (s ++ maB)) 0).getD k []).length=((z13 t 0).getD k []).length):=fun k hk=>by
  rw [k1,k2,z5G _ _ hk,z5G _ _ hk];unfold z5F;rw [htx];generalize (gOf t).cells.getD k dG=y;have eg:(txT t r a (s ++ maB)).gap=t.gap:=rfl;rw [eg]
  split
  ·rename_i h
   rw [hsx y h,z9S hs hp h30];exact ⟨zdX _ _ _,fun hne=>absurd h.1 hne⟩
  ·exact ⟨Nat.le_refl _,fun _=>rfl⟩
 have b1:=zbk (t:=t) (x:=0);have b2:=zbk (t:=txT t r a (s ++ maB)) (x:=0);obtain ⟨_,f2,f3,f4,f5⟩:=F1;obtain ⟨_,g2,g3,g4,g5⟩:=F2;rw [hG] at g3 g4;rw [z3H] at g4;generalize z13 t 0=LT at *;generalize z13 (txT t r a (s ++ maB)) 0=LX at *;generalize z0Z t 0=RT at *;generalize z0Z (txT t r a (s ++ maB)) 0=RX at *
 have hge:∀ l:List Int,(∀ y ∈ l,0<=y/\y<=1000)->∀ k,k < l.length->0<=l.getD k 0:=fun l hb k hk=>by
  rw [show l.getD k 0=l[k] by simp [List.getD,hk]];exact (hb _ (List.getElem_mem hk)).1
 have hcell:∀ k j,k < t.rows.length->j < (gOf t).cells.length->(k:Int)=((gOf t).cells.getD j dG).row+((gOf t).cells.getD j dG).rows - 1->((gOf t).cells.getD j dG).row.toNat=k/\z3r RT ((gOf t).cells.getD j dG)=RT.getD k 0/\z3r RX ((gOf t).cells.getD j dG)=RX.getD k 0:=fun k j hk hj e=>by
  have hr1:=h1 j hj;have hrow:((gOf t).cells.getD j dG).row=(k:Int):=(by omega);exact ⟨by omega,za9 b1 hrow hr1 (by omega),za9 b2 hrow hr1 (by omega)⟩
 refine ⟨hle,by omega,fun k hk=>?_⟩;have hk':k < t.rows.length:=(by omega)
 have hup:RT.getD k 0<=RX.getD k 0:=by
  rcases f4 k hk' with h0 | ⟨j,hj,ej,hh⟩
  ·rw [h0];exact hge RX b2 k (by omega)
  ·obtain ⟨_,c2,c3⟩:=hcell k j hk' hj ej;have:=g3 j hj;have:=(hln j hj).1;omega
 refine ⟨hup,fun hne=>?_⟩
 rcases g4 k hk' with h0 | ⟨j,hj,ej,hh⟩
 ·have:=hge RT b1 k hk;omega
 ·obtain ⟨c1,c2,c3⟩:=hcell k j hk' hj ej;have:=f3 j hj;have:=(hln j hj).2 (by omega);omega
end
section
open Go.RowKit Go.BigFrame
def z1Z (t:T) (x:GC):C:=(t.rows.getD x.row.toNat dR).cells.getD x.ins.toNat dC
theorem zbS (ac ar:Option Addr) (cc cr:Nat) (t:T) (x:GC) {C:Nat} (hx:Cel t C x) (w:World) {z:Nat} (hr:zJ w z (.slice ar t.rows.length cr) t.rows) :
  Calls Tryz.prog 76 #[.agg #[.slice ac t.cols.length cc,int i64 t.head,int i64 t.foot,.slice ar t.rows.length cr,int i64 t.gap],.agg #[int i64 x.row,int i64 x.col,int i64 x.rows,int i64 x.cols,int i64 x.ins]] w fun e w'=>e=.returned (.agg #[.string (z1Z t x).s,int i64 (z1Z t x).c,int i64 (z1Z t x).r,int i64 (z1Z t x).a1,int i64 (z1Z t x).b1,int i64 (z1Z t x).a2,int i64 (z1Z t x).b2,int i64 (z1Z t x).a3,int i64 (z1Z t x).b3,int i64 (z1Z t x).a4,int i64 (z1Z t x).b4])/\(z1Z t x).s.size<=maxLen/\Below w.heap.size w w':=by
 obtain ⟨rn,jn,cn,mn,e1,e2,e3,e4,h1,h2,h3,h4,h5⟩:=hx.ex;have HTx:Hid (z1Z t x=(t.rows.getD rn dR).cells.getD jn dC):=(by rw [Hid,z1Z,e1,e2,Int.toNat_natCast,Int.toNat_natCast]);have hmx:Tryz.prog.follows .mixedOrders=true:=(by kernel_rfl);have K1:=ze (Below.refl w.heap.size w) (.cells #[.slice ac t.cols.length cc,int i64 t.head,int i64 t.foot,.slice ar t.rows.length cr,int i64 t.gap] 26);have X1:=zk w (.cells #[.slice ac t.cols.length cc,int i64 t.head,int i64 t.foot,.slice ar t.rows.length cr,int i64 t.gap] 26);have hs1:(w.alloc (.cells #[.slice ac t.cols.length cc,int i64 t.head,int i64 t.foot,.slice ar t.rows.length cr,int i64 t.gap] 26)).heap.size=w.heap.size+1:=(by simp);rw [e1,e2];clear e1 e2 e3 e4;go_enter Tryz.func76,Tryz.ntmps76;go_upto_region 1 with fail
 have K2:=ze K1 (.cells #[int i64 (rn:Int),int i64 x.col,int i64 x.rows,int i64 x.cols,int i64 (jn:Int)] 73);have X2:=zk (w.alloc (.cells #[.slice ac t.cols.length cc,int i64 t.head,int i64 t.foot,.slice ar t.rows.length cr,int i64 t.gap] 26)) (.cells #[int i64 (rn:Int),int i64 x.col,int i64 x.rows,int i64 x.cols,int i64 (jn:Int)] 73);have X1':=(Below.heap_alloc (w.alloc (.cells #[.slice ac t.cols.length cc,int i64 t.head,int i64 t.foot,.slice ar t.rows.length cr,int i64 t.gap] 26)) (.cells #[int i64 (rn:Int),int i64 x.col,int i64 x.rows,int i64 x.cols,int i64 (jn:Int)] 73) w.heap.size (by omega)).trans X1;rw [hs1] at X2;have hs2:((w.alloc (.cells #[.slice ac t.cols.length cc,int i64 t.head,int i64 t.foot,.slice ar t.rows.length cr,int i64 t.gap] 26)).alloc (.cells #[int i64 (rn:Int),int i64 x.col,int i64 x.rows,int i64 x.cols,int i64 (jn:Int)] 73)).heap.size=w.heap.size+2:=(by simp);generalize (w.alloc (.cells #[.slice ac t.cols.length cc,int i64 t.head,int i64 t.foot,.slice ar t.rows.length cr,int i64 t.gap] 26)).alloc (.cells #[int i64 (rn:Int),int i64 x.col,int i64 x.rows,int i64 x.cols,int i64 (jn:Int)] 73)=W2 at K2 X2 X1' hs2 |-;have K3:=ze K2 (.cells #[.string ⟨#[]⟩,int i64 0,int i64 0,int i64 0,int i64 0,int i64 0,int i64 0,int i64 0,int i64 0,int i64 0,int i64 0] 36);have X3:=zk W2 (.cells #[.string ⟨#[]⟩,int i64 0,int i64 0,int i64 0,int i64 0,int i64 0,int i64 0,int i64 0,int i64 0,int i64 0,int i64 0] 36);have X1'':=(Below.heap_alloc W2 (.cells #[.string ⟨#[]⟩,int i64 0,int i64 0,int i64 0,int i64 0,int i64 0,int i64 0,int i64 0,int i64 0,int i64 0,int i64 0] 36) w.heap.size (by omega)).trans X1';have X2':=(Below.heap_alloc W2 (.cells #[.string ⟨#[]⟩,int i64 0,int i64 0,int i64 0,int i64 0,int i64 0,int i64 0,int i64 0,int i64 0,int i64 0,int i64 0] 36) (w.heap.size+1) (by omega)).trans X2;rw [show W2.heap.size=w.heap.size+1+1 by omega] at X3;generalize W2.alloc (.cells #[.string ⟨#[]⟩,int i64 0,int i64 0,int i64 0,int i64 0,int i64 0,int i64 0,int i64 0,int i64 0,int i64 0,int i64 0] 36)=W at K3 X3 X1'' X2' |-;clear K1 X1 hs1 K2 X2 X1' hs2;obtain ⟨rb,roff,rcap,re,rc1,rc2,rbl,u,hu0,_,hu⟩:=At.get (hr.kept K3) h1;simp only [Value.slice.injEq,true_and] at re;obtain ⟨rfl,rfl⟩:=re;obtain ⟨qb,qoff,qcap,qe,qc1,qc2,qbl,hv,hsl⟩:=At.get hu h2;subst qe;obtain ⟨v0,v1,v2,v3,v4,v5,v6,v7,v8,v9,v10⟩:=hv;have l1:w.heap.size < W.heap.size:=(bL X1'');have l2:w.heap.size+1 < W.heap.size:=(bL X2');have hne:=z1e W;have m0:=zj (a:=⟨w.heap.size,3,none⟩) l1 (zf (p:=3) X1'');have m1:=zj (a:=⟨w.heap.size+1,0,none⟩) l2 (zf (p:=0) X2');have m2:=zj (a:=⟨w.heap.size+1,4,none⟩) l2 (zf (p:=4) X2');have m3:=zj rbl hu0;have n0:=zj qbl v0;have n1:=zj qbl v1;have n2:=zj qbl v2;have n3:=zj qbl v3;have n4:=zj qbl v4;have n5:=zj qbl v5;have n6:=zj qbl v6;have n7:=zj qbl v7;have n8:=zj qbl v8;have n9:=zj qbl v9;have n10:=zj qbl v10;have HSZ:Hid ((z1Z t x).s.size<=maxLen):=(by rw [Hid,HTx.out];exact hsl);have HK:=Hd K3;have HX3:=Hd X3;unfold maxLen at rc2 qc2;generalize (t.rows.getD rn dR).cells.getD jn dC=y at *;generalize (t.rows.getD rn dR).cells.length=rl at h2 m3 qc1;clear hu hu0 hr h3 h4 h5 hx K3 X3 X1'' X2' v0 v1 v2 v3 v4 v5 v6 v7 v8 v9 v10 hsl;refine z1p 11 hmx (by rfl) (by rfl) (by kernel_rfl) (by kernel_rfl) ?_;simp only [List.take_succ_cons,List.take_zero];repeat (go_big_quiet_step (fail))
 refine wpQuiet_nil ?_;intro W5 hw';obtain ⟨⟨Wx,hW5⟩,hw''⟩:=hw';subst hw'';have l3:w.heap.size+1+1 < W.heap.size:=(bL HX3.out);have X5:=(hW5.block _ l3).trans HX3.out;obtain ⟨⟨c0,c1,c2,c3,c4,c5,c6,c7,c8,c9,c10⟩,f0,f1,f2,f3,f4,f5,f6,f7,f8,f9,f10⟩:=z0x X5;have HK5:=Hd (zg HK.out hW5);clear m0 m1 m2 m3 n0 n1 n2 n3 n4 n5 n6 n7 n8 n9 n10 hne hW5 X5;rw [if_pos (by rfl)];go_simp;go_wp2;exact bodyPost_ret (v:=.agg #[.string y.s,int i64 y.c,int i64 y.r,int i64 y.a1,int i64 y.b1,int i64 y.a2,int i64 y.b2,int i64 y.a3,int i64 y.b3,int i64 y.a4,int i64 y.b4]) (by simp [results,Tryz.results76,go_sem,c0,c1,c2,c3,c4,c5,c6,c7,c8,c9,c10]) rfl ⟨by rw [HTx.out],HSZ.out,HK5.out.trans ((z1O W5 (w.heap.size+1+1) (.string y.s) (int i64 y.c) (int i64 y.r) (int i64 y.a1) (int i64 y.b1) (int i64 y.a2) (int i64 y.b2) (int i64 y.a3) (int i64 y.b3) (int i64 y.a4) (int i64 y.b4)).below HK5.out.size (by omega))⟩
end
section
open Go.RowKit
theorem z8Y {t:T} {x:GC} {C:Nat} (hx:Cel t C x) {w:World} {z:Nat} {v:Value} (hr:zJ w z v t.rows):(zL t x).size<=maxLen:=by
 obtain ⟨rn,jn,cn,mn,e1,e2,e3,e4,h1,h2,h3,h4,h5⟩:=hx.ex;rw [zL,e1,e2,Int.toNat_natCast,Int.toNat_natCast];obtain ⟨rb,roff,rcap,re,rc1,rc2,rbl,u,hu0,_,hu⟩:=At.get hr h1;obtain ⟨qb,qoff,qcap,qe,qc1,qc2,qbl,hv,hsl⟩:=At.get hu h2;exact hsl
theorem zaL (s:ByteArray) (x1 x2 x3 x4 x5 x6 x7 x8 x9 x10:Value) (W:World):(Instr.field 36 (.agg #[.string s,x1,x2,x3,x4,x5,x6,x7,x8,x9,x10]) 0).run Tryz.prog W=.ok (.string s) W:=by kernel_rfl
theorem z7I (ac ar:Option Addr) (cc cr:Nat) (t:T) (x:GC) {C:Nat} (hx:Cel t C x) (w:World) {z:Nat} (hr:zJ w z (.slice ar t.rows.length cr) t.rows) :
  Calls Tryz.prog 57 #[.agg #[.slice ac t.cols.length cc,int i64 t.head,int i64 t.foot,.slice ar t.rows.length cr,int i64 t.gap],.agg #[int i64 x.row,int i64 x.col,int i64 x.rows,int i64 x.cols,int i64 x.ins]] w fun e w'=>e=.returned (.string (zL t x))/\(zL t x).size<=maxLen/\Below w.heap.size w w':=by
 have HC:=Hd (zbS ac ar cc cr t x hx);have hfl:=zaL;have K2:=ze (ze (Below.refl w.heap.size w) (.cells #[.slice ac t.cols.length cc,int i64 t.head,int i64 t.foot,.slice ar t.rows.length cr,int i64 t.gap] 26)) (.cells #[int i64 x.row,int i64 x.col,int i64 x.rows,int i64 x.cols,int i64 x.ins] 73);have HR:=Hd (hr.kept K2);have HK:=Hd K2;clear hr hx K2;go_enter Tryz.func57,Tryz.ntmps57;go_wp2_with fail
 refine (HC.out _ HR.out).mono ?_;rintro e w1 ⟨rfl,hsz,hb1⟩;have HK1:=Hd (zg HK.out hb1);clear hb1 HK HR HC;go_wp2;go_ret;exact ⟨rfl,hsz,HK1.out⟩
end
end Go.Proofs.YtggmjiddadjilalGreat
