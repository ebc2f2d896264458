/-
  PROVED HERE: how wide columns are, as lists: at least, and what is left to parts, to others up to what they would be, and the rest alike; all of the width is used, and no column is less wide than at least. Also: 10 more texts of the same proof.
-/
import Derived.Test.YtggmjiddadjilamGreatC30
import Derived.Test.YtggmjiddadjilamGreatC24
set_option maxRecDepth 1000000
set_option maxHeartbeats 40000000
namespace Go.Proofs.YtggmjiddadjilamGreat
section
open Go.RowKit
def zm (t:T) (q:Int) (k:Nat):Bool:=decide ((sd t.cols k).1=q)
def z0v (t:T) (width:Int):Int:=width - ((zv t).sum+t.gap * ((zA t:Int) - 1))
def z0N (t:T) (width:Int) (l:List Int):List Int:=(List.range l.length).map (fun k=>if zm t 2 k=true then max 0 (width * (sd t.cols k).2 / 100 - l.getD k 0) else 0)
def z0O (t:T) (l:List Int):List Int:=(List.range l.length).map (fun k=>if zm t 0 k=true then max 0 ((z1Y t).getD k 0 - l.getD k 0) else 0)
def z0P (t:T) (width:Int):List Int:=z1g (zv t) (z0x (z0v t width) (z0N t width (zv t)))
def z1D (t:T) (width:Int):Int:=z2d (z0v t width) (z0N t width (zv t))
def z1N (t:T) (width:Int):List Int:=z1g (z0P t width) (z0x (z1D t width) (z0O t (z0P t width)))
def z1E (t:T) (width:Int):Int:=z2d (z1D t width) (z0O t (z0P t width))
def z0d (t:T) (width:Int):List Int :=
 if z0v t width≤0 then zv t
 else if 0 < (zk (zm t 0) (zA t)).length then z1g (z1N t width) (zt (z1E t width) (z0y (zm t 0) (zA t)))
 else if 0 < (zk (zm t 2) (zA t)).length then z1g (z1N t width) (zt (z1E t width) (z0y (zm t 2) (zA t)))
 else z1N t width
theorem z5j {a b:List Int} (h:b.length=a.length):(z1g a b).length=a.length:=by unfold z1g;rw [List.length_zipWith,h];omega
theorem z9e {a b:List Int} (h:b.length=a.length):(z1g a b).sum=a.sum+b.sum:=zel a b h.symm
theorem z4s {a b:List Int} (h:b.length=a.length) {i:Nat} (hi:i < a.length):(z1g a b).getD i 0=a.getD i 0+b.getD i 0:=by
 have hb:i < b.length:=(by omega);have hz:i < (List.zipWith (·+·) a b).length:=(by rw [List.length_zipWith];omega);unfold z1g;simp only [List.getD,List.getElem?_eq_getElem hi,List.getElem?_eq_getElem hb,List.getElem?_eq_getElem hz,Option.getD_some,List.getElem_zipWith]
theorem z32 (t:T) (width:Int) (l:List Int):(z0N t width l).length=l.length:=by simp [z0N]
theorem z2E (t:T) (l:List Int):(z0O t l).length=l.length:=by simp [z0O]
theorem z4I {t:T} {width:Int} {l:List Int} {k:Nat} (h:k < l.length):(z0N t width l).getD k 0=if zm t 2 k=true then max 0 (width * (sd t.cols k).2 / 100 - l.getD k 0) else 0:=by simp [z0N,List.getD,h]
theorem z4J {t:T} {l:List Int} {k:Nat} (h:k < l.length):(z0O t l).getD k 0=if zm t 0 k=true then max 0 ((z1Y t).getD k 0 - l.getD k 0) else 0:=by simp [z0O,List.getD,h]
theorem zeW {t:Int} {l:List Int} (ht:0≤t∧t≤100000) (hl:l.length≤100) (h:∀ i,i < l.length→0≤l.getD i 0∧l.getD i 0≤100000):zB t l=true:=by
 simp only [zB,Bool.and_eq_true,decide_eq_true_eq,List.all_eq_true];refine ⟨⟨by simp only [wtB,decide_eq_true_eq];exact ht,hl⟩,fun x hx=>?_⟩;obtain ⟨i,hi,rfl⟩:=List.mem_iff_getElem.1 hx;have:=h i hi;rw [show l.getD i 0=l[i] by simp [List.getD,hi]] at this;simp only [wtB,decide_eq_true_eq];exact this
theorem z1Z {t:Int} {l:List Int} (hok:zB t l=true):(z0x t l).length=l.length∧(z0x t l).sum+z2d t l=t∧0≤z2d t l∧z2d t l≤t∧∀ i,i < l.length→0≤(z0x t l).getD i 0∧(z0x t l).getD i 0≤l.getD i 0:=by
 obtain ⟨ht,hlen,hw⟩:=z03 hok;have hg:∀ i,i < l.length→0≤l.getD i 0:=fun i hi=>(z2W hw hi).1;by_cases hs:l.sum≤t
 ·rw [(z3S hok hs).1,(z3S hok hs).2];have h0:0≤l.sum:=(z2z hw).1;exact ⟨rfl,by omega,by omega,by omega,fun i hi=>⟨hg i hi,Int.le_refl _⟩⟩
 ·rw [(z31 hok hs).1,(z31 hok hs).2]
  have hpos:0 < l.length:=by
   cases l with
   | nil=>simp at hs;omega
   | cons _ _=>simp
  exact ⟨z1r hok,by rw [z3g hok hpos];omega,Int.le_refl _,ht.1,fun i hi=>zeR hok (by omega) hi⟩
theorem z6U {t:T} {k:Nat} (hk:k < zA t):((sd t.cols k).1=0)∨((sd t.cols k).1=1∧0≤(sd t.cols k).2∧(sd t.cols k).2≤60)∨((sd t.cols k).1=2∧1≤(sd t.cols k).2∧(sd t.cols k).2≤100):=by
 cases h:zC t with
 | false=>unfold zA at hk;rw [zcj h] at hk;exact absurd hk (Nat.not_lt_zero _)
 | true =>
  simp only [zC,z2c,Bool.and_eq_true,List.all_eq_true] at h;by_cases hl:k < t.cols.length
  ·rw [z88 hl];have:=h.2.2.2.1.2 (t.cols.getD k (0,0)) (by rw [show t.cols.getD k (0,0)=t.cols[k] by simp [List.getD,hl]];exact List.getElem_mem hl);simp only [z2n,decide_eq_true_eq] at this;omega
  ·rw [z9S (z2V (by omega))];exact .inl rfl
theorem z9U {width n:Int} (hw:0≤width∧width≤300) (hn:1≤n∧n≤100):0≤width * n / 100∧width * n / 100≤300:=by
 have h1:0≤width * n:=Int.mul_nonneg hw.1 (by omega);have h2:width * n≤300 * 100:=Int.mul_le_mul hw.2 hn.2 (by omega) (by omega);omega
theorem z3T {t:T} (hD:z0g t) (hok:zC t=true) {width:Int} (hw:0≤width∧width≤300) (hr:0 < z0v t width) :
  zB (z0v t width) (z0N t width (zv t))=true∧zB (z1D t width) (z0O t (z0P t width))=true∧(0≤z1E t width∧z1E t width≤300)∧(z0P t width).length=zA t∧(z1N t width).length=zA t∧(z1N t width).sum+z1E t width=(zv t).sum+z0v t width ∧
  (∀ k,k < zA t→(zv t).getD k 0≤(z0P t width).getD k 0∧(z0P t width).getD k 0≤(z1N t width).getD k 0∧(zm t 2 k=false→(z0P t width).getD k 0=(zv t).getD k 0)∧(zm t 0 k=false→(z1N t width).getD k 0=(z0P t width).getD k 0)):=by
 obtain ⟨_,C,hgc,hC,hcel⟩:=z2Z hD;have hCN:=z43 hgc;have hlen:=z1e t;have hup:=z3Q hD;have hsb:=z5e (l:=zv t) (B:=5000) (fun x hx=>hup.mem hx)
 have hC1:1≤zA t:=by
  have h1:(gOf t).cols=z0q (max 1 (t.cols.length:Int)) (zL t):=(by rw [z2q hok]);have h2:=z3I (zL t) (max 1 (t.cols.length:Int));unfold zA;omega
 have hg:0≤t.gap∧t.gap≤3:=by
  simp only [zC,inB,Bool.and_eq_true,decide_eq_true_eq] at hok;exact hok.2.2.1
 have hgap:0≤t.gap * ((zA t:Int) - 1):=Int.mul_nonneg hg.1 (by omega);have hr300:z0v t width≤300:=(by unfold z0v;omega)
 have ok1:zB (z0v t width) (z0N t width (zv t))=true:=zeW (by omega) (by rw [z32,hlen];omega) (fun i hi=>by
  rw [z32] at hi;rw [z4I hi];have hu:=hup i hi
  split
  ·rename_i hp
   have hk:=z6U (t:=t) (k:=i) (by rw [← hlen];exact hi);simp only [zm,decide_eq_true_eq] at hp;have:=z9U hw (n:=(sd t.cols i).2) (by omega);omega
  ·omega)
 obtain ⟨l1,s1,n1,m1,e1⟩:=z1Z ok1;rw [z32] at l1 e1;have ho1:(z0P t width).length=zA t:=(by unfold z0P;rw [z5j l1,hlen]);have g1:∀ k,k < zA t→(z0P t width).getD k 0=(zv t).getD k 0+(z0x (z0v t width) (z0N t width (zv t))).getD k 0:=fun k hk=>by unfold z0P;exact z4s l1 (by rw [hlen];exact hk)
 have hl1:0≤z1D t width∧z1D t width≤300:=(by unfold z1D;omega)
 have ok2:zB (z1D t width) (z0O t (z0P t width))=true:=zeW (by omega) (by rw [z2E,ho1];omega) (fun i hi=>by
  rw [z2E] at hi;rw [z4J hi];have hi':i < zA t:=(by rw [← ho1];exact hi);have hwu:=z7l hD i (by rw [z5B];exact hi');have h3:=g1 i hi';have h4:=hup i (by rw [hlen];exact hi');have h5:=e1 i (by rw [hlen];exact hi')
  split <;> omega)
 obtain ⟨l2,s2,n2,m2,e2⟩:=z1Z ok2;rw [z2E] at l2 e2;have ho2:(z1N t width).length=zA t:=(by unfold z1N;rw [z5j l2,ho1]);have g2:∀ k,k < zA t→(z1N t width).getD k 0=(z0P t width).getD k 0+(z0x (z1D t width) (z0O t (z0P t width))).getD k 0:=fun k hk=>by unfold z1N;exact z4s l2 (by rw [ho1];exact hk)
 refine ⟨ok1,ok2,by unfold z1E;omega,ho1,ho2,?_,fun k hk=>?_⟩
 ·have a1:(z0P t width).sum=(zv t).sum+(z0x (z0v t width) (z0N t width (zv t))).sum:=(by unfold z0P;exact z9e l1);have a2:(z1N t width).sum=(z0P t width).sum+(z0x (z1D t width) (z0O t (z0P t width))).sum:=(by unfold z1N;exact z9e l2);have a3:z1D t width=z2d (z0v t width) (z0N t width (zv t)):=rfl;have a4:z1E t width=z2d (z1D t width) (z0O t (z0P t width)):=rfl;rw [a2,a1,a4];omega
 ·have b1:=e1 k (by rw [hlen];exact hk);have b2:=e2 k (by rw [ho1];exact hk);rw [z4I (by rw [hlen];exact hk)] at b1;rw [z4J (by rw [ho1];exact hk)] at b2;have c1:=g1 k hk;have c2:=g2 k hk;refine ⟨by omega,by omega,fun h=>?_,fun h=>?_⟩
  ·rw [if_neg (by rw [h];simp)] at b1;omega
  ·rw [if_neg (by rw [h];simp)] at b2;omega
theorem z9f {P:Nat→Bool} {n:Nat}:(z0y P n).sum=((zk P n).length:Int):=by
 have hz:∀ i,i < (z0y P n).length→P i=false→(z0y P n).getD i 0=0:=fun i hi hP=>by
  rw [z0R] at hi;rw [z5i hi,if_neg (by rw [hP];simp)]
 have:=z5h (l:=z0y P n) (P:=P) (z0y P n).length (Nat.le_refl _) hz;rw [z1v,z0R,zaF,z69] at this;exact this.symm
theorem z6u {P:Nat→Bool} {n:Nat} (h:¬ 0 < (zk P n).length) {k:Nat} (hk:k < n):P k=false:=by
 cases hP:P k with
 | false=>rfl
 | true =>
  have:k ∈ zk P n:=(by unfold zk;rw [List.mem_filter];exact ⟨List.mem_range.2 hk,hP⟩);exact absurd (List.length_pos_of_mem this) h
theorem z9V {P:Nat→Bool} {n:Nat} {t:Int} {l:List Int} (hl:l.length=n) (hn:n≤100) (ht:0≤t∧t≤300) (h0:0 < (zk P n).length) :
  (z1g l (zt t (z0y P n))).length=n∧(z1g l (zt t (z0y P n))).sum=l.sum+t∧∀ k,k < n→l.getD k 0≤(z1g l (zt t (z0y P n))).getD k 0∧(P k=false→(z1g l (zt t (z0y P n))).getD k 0=l.getD k 0):=by
 have hok:=z3e P (n:=n) (t:=t) (by omega) hn;have hs:=z1r hok;rw [z0R] at hs
 have hpos:0 < n:=by
  have:=(z3q h0).1;omega
 refine ⟨by rw [z5j (by rw [hs,hl]),hl],by rw [z9e (by rw [hs,hl]),z3g hok (by rw [z0R];exact hpos)],fun k hk=>?_⟩;rw [z4s (by rw [hs,hl]) (by rw [hl];exact hk)];have h1:=z1w (t:=t) (l:=z0y P n) k (by rw [hs];exact hk);refine ⟨by omega,fun hP=>?_⟩;rw [z5O hok (by rw [z9f];omega) (by rw [z0R];exact hk) (by rw [z5i hk,if_neg (by rw [hP];simp)])];omega
def z8e (t:T):Bool:=(List.range (zA t)).all (fun k=>zm t 1 k)
theorem zbw {t:T} (hD:z0g t) (hok:zC t=true) {width:Int} (hw:0≤width∧width≤300) :
  (z0d t width).length=zA t∧(z0d t width).sum+t.gap * ((zA t:Int) - 1)=(if width < (zv t).sum+t.gap * ((zA t:Int) - 1)∨z8e t=true then (zv t).sum+t.gap * ((zA t:Int) - 1) else width) ∧
  ∀ k,k < zA t→(zv t).getD k 0≤(z0d t width).getD k 0∧(zm t 1 k=true→(z0d t width).getD k 0=(zv t).getD k 0):=by
 obtain ⟨_,C,hgc,hC,hcel⟩:=z2Z hD;have hCN:=z43 hgc
 have hk1:∀ k,zm t 1 k=true→zm t 0 k=false∧zm t 2 k=false:=fun k h=>by
  simp only [zm,decide_eq_true_eq] at h;simp [zm,h]
 by_cases hr:z0v t width≤0
 ·have e:z0d t width=zv t:=(by unfold z0d;rw [if_pos hr]);rw [e];refine ⟨z1e t,?_,fun k _=>⟨Int.le_refl _,fun _=>rfl⟩⟩;unfold z0v at hr
  split
  ·rfl
  ·rename_i hn
   have:¬ width < (zv t).sum+t.gap * ((zA t:Int) - 1):=fun h=>hn (.inl h);omega
 ·obtain ⟨_,_,hl2,_,ho2,hsum,hk⟩:=z3T hD hok hw (by omega);have hrr:z0v t width=width - ((zv t).sum+t.gap * ((zA t:Int) - 1)):=rfl;have hnl:¬ width < (zv t).sum+t.gap * ((zA t:Int) - 1):=(by omega);by_cases h0:0 < (zk (zm t 0) (zA t)).length
  ·have e:z0d t width=z1g (z1N t width) (zt (z1E t width) (z0y (zm t 0) (zA t))):=(by unfold z0d;rw [if_neg hr,if_pos h0]);obtain ⟨a1,a2,a3⟩:=z9V ho2 (by omega) hl2 h0
   have hnf:¬ z8e t=true:=fun h=>by
    have hg:=z3q h0;have:=List.all_eq_true.1 h _ (List.mem_range.2 hg.1);have:=(hk1 _ this).1;rw [hg.2] at this
    cases this
   rw [e];refine ⟨a1,?_,fun k hkk=>?_⟩
   ·rw [if_neg (by rintro (h | h);exact hnl h;exact hnf h),a2];omega
   ·have b1:=a3 k hkk;have b2:=hk k hkk;refine ⟨by omega,fun h=>?_⟩;have c:=hk1 k h;rw [b1.2 c.1,b2.2.2.2 c.1,b2.2.2.1 c.2]
  ·by_cases h2:0 < (zk (zm t 2) (zA t)).length
   ·have e:z0d t width=z1g (z1N t width) (zt (z1E t width) (z0y (zm t 2) (zA t))):=(by unfold z0d;rw [if_neg hr,if_neg h0,if_pos h2]);obtain ⟨a1,a2,a3⟩:=z9V ho2 (by omega) hl2 h2
    have hnf:¬ z8e t=true:=fun h=>by
     have hg:=z3q h2;have:=List.all_eq_true.1 h _ (List.mem_range.2 hg.1);have:=(hk1 _ this).2;rw [hg.2] at this
     cases this
    rw [e];refine ⟨a1,?_,fun k hkk=>?_⟩
    ·rw [if_neg (by rintro (h | h);exact hnl h;exact hnf h),a2];omega
    ·have b1:=a3 k hkk;have b2:=hk k hkk;refine ⟨by omega,fun h=>?_⟩;have c:=hk1 k h;rw [b1.2 c.2,b2.2.2.2 c.1,b2.2.2.1 c.2]
   ·have e:z0d t width=z1N t width:=(by unfold z0d;rw [if_neg hr,if_neg h0,if_neg h2])
    have hfx:z8e t=true:=List.all_eq_true.2 (fun k hkr=>by
     have hkk:=List.mem_range.1 hkr;have n0:=z6u h0 hkk;have n2:=z6u h2 hkk;have:=z6U hkk;simp only [zm,decide_eq_false_iff_not] at n0 n2;simp only [zm,decide_eq_true_eq]
     omega)
    have heq:z1N t width=zv t:=by
     apply List.ext_getElem (by rw [ho2,z1e]);intro i h1 h3;have hi:i < zA t:=(by rw [ho2] at h1;exact h1);have b:=hk i hi;have:=(b.2.2.2 (z6u h0 hi)).trans (b.2.2.1 (z6u h2 hi))
     simpa [List.getD,h1,h3] using this
    rw [e,heq];refine ⟨z1e t,by rw [if_pos (.inr hfx)],fun k _=>⟨Int.le_refl _,fun _=>rfl⟩⟩
def z5E (t:T) (width:Int):List Int:=if (zC t && inB width 0 300)=true then z0d t width else []
def z8y (t:T) (l:List Int) (x:GC):List ByteArray:=zR (z15 (z2k l t.gap x) (zP (zI t x)))
def z16 (t:T) (l:List Int) (gs:List GC):List (List ByteArray):=gs.map (z8y t l)
def z4W (t:T) (width:Int):List (List ByteArray):=if (zC t && inB width 0 300)=true then z16 t (z0d t width) (gOf t).cells else []
theorem zbx (l:List Int) (gap:Int) (x:GC):-9223372036854775808≤z2k l gap x∧z2k l gap x≤9223372036854775807:=by
 unfold z2k z1H
 split
 ·omega
 ·exact zh7 _
theorem z45 (t:T) (l:List Int) (gs:List GC):(z16 t l gs).length=gs.length:=by simp [z16]
theorem zeX (t:T) (l:List Int) {gs:List GC} {k:Nat} (h:k < gs.length):(z16 t l gs).getD k []=z8y t l (gs.getD k dG):=by simp [z16,List.getD,h]
theorem z8T (t:T) (l:List Int) {gs:List GC} {k:Nat} (h:k < gs.length):(z16 t l gs).take (k+1)=(z16 t l gs).take k ++ [z8y t l (gs.getD k dG)]:=by
 rw [List.take_succ_eq_append_getElem (by rw [z45];exact h)];simp [z16,List.getD,h]
theorem zgw (t:T) (l:List Int) (x:GC):(z8y t l x).length≤31:=by
 have h1:=(zbr (z2k l t.gap x) (zP (zI t x))).1;have h2:=z5P (zI t x);unfold z8y;omega
theorem zeY (t:T) (l:List Int) (x:GC):∀ y ∈ z8y t l x,y.size≤maxLen:=by
 refine zj0 (n:=maxLen) ?_ _ (fun y _=>?_)
 ·have:=(zbx l t.gap x).2;unfold maxLen;omega
 ·have:=y.2.2;unfold maxLen;omega
theorem z8U (t:T) (l:List Int) (gs:List GC):∀ k ∈ z16 t l gs,∀ y ∈ k,y.size≤maxLen:=by
 intro k hk y hy;obtain ⟨x,_,rfl⟩:=List.mem_map.1 hk;exact zeY t l x y hy
def z6V (t:T) (l:List Int):List Int:=z0b (rcs (gOf t).cells (z16 t l (gOf t).cells)) t.rows.length
def z1j (t:T) (width:Int):List Int:=if (zC t && inB width 0 300)=true then z6V t (z0d t width) else []
theorem zil {t:T} (hok:zC t=true):(gOf t).rows=(t.rows.length:Nat):=by rw [z2q hok]
theorem zim {t:T} (hD:z0g t) (hok:zC t=true):∀ k,k < (gOf t).cells.length→∃ a m:Nat,((gOf t).cells.getD k dG).row=a∧((gOf t).cells.getD k dG).rows=m∧1≤m∧a+m≤t.rows.length:=by
 intro k hk;have hl:=z3E hok hD;rw [z2q hok] at hk ⊢;have hs:=z3H hl (z2i (d:=dG) (show k < (zL t).length from hk));unfold z1o at hs;exact ⟨((zL t).getD k dG).row.toNat,((zL t).getD k dG).rows.toNat,by show ((zL t).getD k dG).row=_;omega,by show ((zL t).getD k dG).rows=_;omega,by omega,by omega⟩
theorem zin {t:T} (hD:z0g t) (hok:zC t=true) (j:Nat):∀ k,j≤k→k < (gOf t).cells.length→((gOf t).cells.getD j dG).row≤((gOf t).cells.getD k dG).row
 | 0,h,_=>by
  obtain rfl:j=0:=by omega
  exact Int.le_refl _
 | k+1,h,hk=>by
  rcases Nat.lt_or_ge k j with h1 | h1
  ·obtain rfl:j=k+1:=by omega
   exact Int.le_refl _
  ·have ih:=zin hD hok j k h1 (by omega);have hl:=z3E hok hD;have hk':k+1 < (zL t).length:=(by rw [z2q hok] at hk;exact hk);have ha:=(z8s hl hk').after (by omega);rw [z2q hok] at ih ⊢;have e1:(⟨(t.rows.length:Int),z0q (max 1 (t.cols.length:Int)) (zL t),zL t⟩:G).cells=zL t:=rfl;rw [e1] at ih ⊢;have e2:k+1 - 1=k:=(by omega);rw [e2] at ha;omega
theorem zjA {t:T} (hD:z0g t):(gOf t).cells.length≤40:=(z2Z hD).1
theorem zio {t:T} (hD:z0g t) (hok:zC t=true):t.rows.length≤8:=(z3E hok hD).rows
theorem zeZ (t:T) (l:List Int) (gs:List GC):∀ k,k < gs.length→((z16 t l gs).getD k []).length≤1000:=fun k hk=>by
 rw [zeX t l hk];have:=zgw t l (gs.getD k dG);omega
theorem zip (t:T) (l:List Int) (gs:List GC):∀ c ∈ rcs gs (z16 t l gs),c.2.2≤1000:=zeg (z45 t l gs) (fun k hk=>by have:=zeZ t l gs k hk;show (((z16 t l gs).getD k []).length:Int)≤1000;omega)
theorem zgx {l:List Int} {x:GC} {a m:Nat} (hr:x.row=a) (hm:x.rows=m) (h1:1≤m) (h2:a+m≤l.length) (hb:-9223372036854775808≤zF l (a+m) - zF l a∧zF l (a+m) - zF l a≤9223372036854775807):z7n l x=zF l (a+m) - zF l a:=by
 obtain ⟨e1,e2⟩:=zcY (l:=l) (x:=zcZ x) (c:=a) (m:=m) hr hm l.length (Nat.le_refl _);have e3:min l.length (a+m)=a+m:=(by omega);have e4:min l.length a=a:=(by omega);rw [e3,e4] at e2;unfold z7n z2k;rw [z3f (by rw [e1];omega),e2,Int.zero_mul,Int.add_zero,z35 hb]
theorem zjB (cs:List z0F) (R r k:Nat) {a:Nat} (ha:a≤r):zF (hsL cs R r k) (r+1) - zF (hsL cs R r k) a=(z0b cs r).sum - zF (z0b cs r) a+z3c cs r k:=by
 have h1:zF (hsL cs R r k) a=zF (z0b cs r) a:=by
  rw [zF,zF,hsL,List.take_append_of_le_length (by rw [z0Y];exact ha)]
 have h2:zF (hsL cs R r k) (r+1)=(z0b cs r).sum+z3c cs r k:=by
  rw [zF,hsL,List.take_append,z0Y,show r+1 - r=1 by omega,List.take_of_length_le (by rw [z0Y];omega)];simp
 rw [h1,h2];omega
theorem zem {cs:List z0F} (hc:∀ c ∈ cs,c.2.2≤1000) {r:Nat} (hr:r≤88) (a:Nat):0≤(z0b cs r).sum - zF (z0b cs r) a∧(z0b cs r).sum - zF (z0b cs r) a≤88000:=by
 refine ⟨zau (z5a cs r) a,?_⟩;have h1:(z0b cs r).sum=((z0b cs r).take a).sum+((z0b cs r).drop a).sum:=(by rw [← List.sum_append,List.take_append_drop]);have h2:=zaA (l:=(z0b cs r).drop a) (fun x hx=>⟨z5a cs r x (List.mem_of_mem_drop hx),z7b (by omega) cs hc r x (List.mem_of_mem_drop hx)⟩);rw [List.length_drop,z0Y] at h2;rw [zF];omega
theorem zj3 {cs:List z0F} (hc:∀ c ∈ cs,c.2.2≤1000) {R r k:Nat} (hR:R≤88) (hr:r < R) {x:GC} {a m:Nat} (hrx:x.row=a) (hmx:x.rows=m) (h1:1≤m) (h2:a+m=r+1):z7n (hsL cs R r k) x=(z0b cs r).sum - zF (z0b cs r) a+z3c cs r k:=by
 have hs:=zjB cs R r k (show a≤r by omega);have hb:=zem hc (r:=r) (by omega) a;have hcb:=z6s (by omega) hc r k;rw [← h2] at hs;rw [zgx hrx hmx h1 (by rw [z8x cs k hr];omega) (by rw [hs];omega),hs]
theorem zj4 {cs:List z0F} {R r k:Nat} (h:∀ j,k≤j→j < cs.length→∀ c,cs[j]?=some c→r < c.1∧1≤c.2.1):hsL cs R r k=hsL cs R r cs.length:=by
 have e:z3c cs r cs.length=z3c cs r k:=by
  rw [z3c,List.take_length,z3c];have h2:∀ f:Int→z0F→Int,cs.foldl f 0=(cs.drop k).foldl f ((cs.take k).foldl f 0):=fun f=>by rw [← List.foldl_append,List.take_append_drop]
  rw [h2];refine zbc _ _ _ (fun c hc=>?_);rw [z0Y];obtain ⟨i,hi,e⟩:=List.mem_iff_getElem.mp hc;rw [List.length_drop] at hi;refine h (k+i) (by omega) (by omega) c ?_;rw [List.getElem?_eq_getElem (by omega),← e,List.getElem_drop]
 rw [hsL,hsL,e]
end
section
open Go.RowKit Go.BigFrame
def z2N (t:T) (x:GC):C:=(t.rows.getD x.row.toNat dR).cells.getD x.ins.toNat dC
theorem zf0 (ac ar:Option Addr) (cc cr:Nat) (t:T) (x:GC) {C:Nat} (hx:Cel t C x) (w:World) {z:Nat} (hr:z01 w z (.slice ar t.rows.length cr) t.rows) :
  Calls Tryz.prog 128 #[.agg #[.slice ac t.cols.length cc,.int .i64 t.head,.int .i64 t.foot,.slice ar t.rows.length cr,.int .i64 t.gap],.agg #[.int .i64 x.row,.int .i64 x.col,.int .i64 x.rows,.int .i64 x.cols,.int .i64 x.ins]] w fun e w'=>e=.returned (.agg #[.string (z2N t x).s,.int .i64 (z2N t x).c,.int .i64 (z2N t x).r,.int .i64 (z2N t x).a1,.int .i64 (z2N t x).b1,.int .i64 (z2N t x).a2,.int .i64 (z2N t x).b2,.int .i64 (z2N t x).a3,.int .i64 (z2N t x).b3,.int .i64 (z2N t x).a4,.int .i64 (z2N t x).b4])∧(z2N t x).s.size≤maxLen∧Below w.heap.size w w':=by
 obtain ⟨rn,jn,cn,mn,e1,e2,e3,e4,h1,h2,h3,h4,h5⟩:=hx.ex;have HTx:Hid (z2N t x=(t.rows.getD rn dR).cells.getD jn dC):=(by rw [Hid,z2N,e1,e2,Int.toNat_natCast,Int.toNat_natCast]);have hmx:Tryz.prog.follows .mixedOrders=true:=(by kernel_rfl);have K1:=ze (Below.refl w.heap.size w) (.cells #[.slice ac t.cols.length cc,.int .i64 t.head,.int .i64 t.foot,.slice ar t.rows.length cr,.int .i64 t.gap] 26);have X1:=zj w (.cells #[.slice ac t.cols.length cc,.int .i64 t.head,.int .i64 t.foot,.slice ar t.rows.length cr,.int .i64 t.gap] 26);have hs1:(w.alloc (.cells #[.slice ac t.cols.length cc,.int .i64 t.head,.int .i64 t.foot,.slice ar t.rows.length cr,.int .i64 t.gap] 26)).heap.size=w.heap.size+1:=(by simp);rw [e1,e2];clear e1 e2 e3 e4;go_enter Tryz.func128,Tryz.ntmps128;go_upto_region 1 with fail
 have K2:=ze K1 (.cells #[.int .i64 (rn:Int),.int .i64 x.col,.int .i64 x.rows,.int .i64 x.cols,.int .i64 (jn:Int)] 112);have X2:=zj (w.alloc (.cells #[.slice ac t.cols.length cc,.int .i64 t.head,.int .i64 t.foot,.slice ar t.rows.length cr,.int .i64 t.gap] 26)) (.cells #[.int .i64 (rn:Int),.int .i64 x.col,.int .i64 x.rows,.int .i64 x.cols,.int .i64 (jn:Int)] 112);have X1':=(Below.heap_alloc (w.alloc (.cells #[.slice ac t.cols.length cc,.int .i64 t.head,.int .i64 t.foot,.slice ar t.rows.length cr,.int .i64 t.gap] 26)) (.cells #[.int .i64 (rn:Int),.int .i64 x.col,.int .i64 x.rows,.int .i64 x.cols,.int .i64 (jn:Int)] 112) w.heap.size (by omega)).trans X1;rw [hs1] at X2;have hs2:((w.alloc (.cells #[.slice ac t.cols.length cc,.int .i64 t.head,.int .i64 t.foot,.slice ar t.rows.length cr,.int .i64 t.gap] 26)).alloc (.cells #[.int .i64 (rn:Int),.int .i64 x.col,.int .i64 x.rows,.int .i64 x.cols,.int .i64 (jn:Int)] 112)).heap.size=w.heap.size+2:=(by simp);generalize (w.alloc (.cells #[.slice ac t.cols.length cc,.int .i64 t.head,.int .i64 t.foot,.slice ar t.rows.length cr,.int .i64 t.gap] 26)).alloc (.cells #[.int .i64 (rn:Int),.int .i64 x.col,.int .i64 x.rows,.int .i64 x.cols,.int .i64 (jn:Int)] 112)=W2 at K2 X2 X1' hs2 ⊢;have K3:=ze K2 (.cells #[.string ⟨#[]⟩,.int .i64 0,.int .i64 0,.int .i64 0,.int .i64 0,.int .i64 0,.int .i64 0,.int .i64 0,.int .i64 0,.int .i64 0,.int .i64 0] 35);have X3:=zj W2 (.cells #[.string ⟨#[]⟩,.int .i64 0,.int .i64 0,.int .i64 0,.int .i64 0,.int .i64 0,.int .i64 0,.int .i64 0,.int .i64 0,.int .i64 0,.int .i64 0] 35);have X1'':=(Below.heap_alloc W2 (.cells #[.string ⟨#[]⟩,.int .i64 0,.int .i64 0,.int .i64 0,.int .i64 0,.int .i64 0,.int .i64 0,.int .i64 0,.int .i64 0,.int .i64 0,.int .i64 0] 35) w.heap.size (by omega)).trans X1';have X2':=(Below.heap_alloc W2 (.cells #[.string ⟨#[]⟩,.int .i64 0,.int .i64 0,.int .i64 0,.int .i64 0,.int .i64 0,.int .i64 0,.int .i64 0,.int .i64 0,.int .i64 0,.int .i64 0] 35) (w.heap.size+1) (by omega)).trans X2;rw [show W2.heap.size=w.heap.size+1+1 by omega] at X3;generalize W2.alloc (.cells #[.string ⟨#[]⟩,.int .i64 0,.int .i64 0,.int .i64 0,.int .i64 0,.int .i64 0,.int .i64 0,.int .i64 0,.int .i64 0,.int .i64 0,.int .i64 0] 35)=W at K3 X3 X1'' X2' ⊢;clear K1 X1 hs1 K2 X2 X1' hs2;obtain ⟨rb,roff,rcap,re,rc1,rc2,rbl,u,hu0,_,hu⟩:=At.get (hr.kept K3) h1;simp only [Value.slice.injEq,true_and] at re;obtain ⟨rfl,rfl⟩:=re;obtain ⟨qb,qoff,qcap,qe,qc1,qc2,qbl,hv,hsl⟩:=At.get hu h2;subst qe;obtain ⟨v0,v1,v2,v3,v4,v5,v6,v7,v8,v9,v10⟩:=hv;have l1:w.heap.size < W.heap.size:=(bL X1'');have l2:w.heap.size+1 < W.heap.size:=(bL X2');have hne:=z0t W;have m0:=zi (a:=⟨w.heap.size,3,none⟩) l1 (zf (p:=3) X1'');have m1:=zi (a:=⟨w.heap.size+1,0,none⟩) l2 (zf (p:=0) X2');have m2:=zi (a:=⟨w.heap.size+1,4,none⟩) l2 (zf (p:=4) X2');have m3:=zi rbl hu0;have n0:=zi qbl v0;have n1:=zi qbl v1;have n2:=zi qbl v2;have n3:=zi qbl v3;have n4:=zi qbl v4;have n5:=zi qbl v5;have n6:=zi qbl v6;have n7:=zi qbl v7;have n8:=zi qbl v8;have n9:=zi qbl v9;have n10:=zi qbl v10;have HSZ:Hid ((z2N t x).s.size≤maxLen):=(by rw [Hid,HTx.out];exact hsl);have HK:=Hd K3;have HX3:=Hd X3;unfold maxLen at rc2 qc2;generalize (t.rows.getD rn dR).cells.getD jn dC=y at *;generalize (t.rows.getD rn dR).cells.length=rl at h2 m3 qc1;clear hu hu0 hr h3 h4 h5 hx K3 X3 X1'' X2' v0 v1 v2 v3 v4 v5 v6 v7 v8 v9 v10 hsl;refine z17 11 hmx (by rfl) (by rfl) (by kernel_rfl) (by kernel_rfl) ?_;simp only [List.take_succ_cons,List.take_zero];repeat (go_big_quiet_step (fail))
 refine wpQuiet_nil ?_;intro W5 hw';obtain ⟨⟨Wx,hW5⟩,hw''⟩:=hw';subst hw'';have l3:w.heap.size+1+1 < W.heap.size:=(bL HX3.out);have X5:=(hW5.block _ l3).trans HX3.out;obtain ⟨⟨c0,c1,c2,c3,c4,c5,c6,c7,c8,c9,c10⟩,f0,f1,f2,f3,f4,f5,f6,f7,f8,f9,f10⟩:=z14 X5;have HK5:=Hd (zh HK.out hW5);clear m0 m1 m2 m3 n0 n1 n2 n3 n4 n5 n6 n7 n8 n9 n10 hne hW5 X5;rw [if_pos (by rfl)];go_simp;go_wp2;exact bodyPost_ret (v:=.agg #[.string y.s,.int .i64 y.c,.int .i64 y.r,.int .i64 y.a1,.int .i64 y.b1,.int .i64 y.a2,.int .i64 y.b2,.int .i64 y.a3,.int .i64 y.b3,.int .i64 y.a4,.int .i64 y.b4]) (by simp [results,Tryz.results128,go_sem,c0,c1,c2,c3,c4,c5,c6,c7,c8,c9,c10]) rfl ⟨by rw [HTx.out],HSZ.out,HK5.out.trans ((z2G W5 (w.heap.size+1+1) (.string y.s) (.int .i64 y.c) (.int .i64 y.r) (.int .i64 y.a1) (.int .i64 y.b1) (.int .i64 y.a2) (.int .i64 y.b2) (.int .i64 y.a3) (.int .i64 y.b3) (.int .i64 y.a4) (.int .i64 y.b4)).below HK5.out.size (by omega))⟩
end
section
open Go.RowKit
theorem z6w {t:T} {x:GC} {C:Nat} (hx:Cel t C x) {w:World} {z:Nat} {v:Value} (hr:z01 w z v t.rows):(zI t x).size≤maxLen:=by
 obtain ⟨rn,jn,cn,mn,e1,e2,e3,e4,h1,h2,h3,h4,h5⟩:=hx.ex;rw [zI,e1,e2,Int.toNat_natCast,Int.toNat_natCast];obtain ⟨rb,roff,rcap,re,rc1,rc2,rbl,u,hu0,_,hu⟩:=At.get hr h1;obtain ⟨qb,qoff,qcap,qe,qc1,qc2,qbl,hv,hsl⟩:=At.get hu h2;exact hsl
theorem zdE (s:ByteArray) (x1 x2 x3 x4 x5 x6 x7 x8 x9 x10:Value) (W:World):(Instr.field 35 (.agg #[.string s,x1,x2,x3,x4,x5,x6,x7,x8,x9,x10]) 0).run Tryz.prog W=.ok (.string s) W:=by kernel_rfl
theorem z9Y (ac ar:Option Addr) (cc cr:Nat) (t:T) (x:GC) {C:Nat} (hx:Cel t C x) (w:World) {z:Nat} (hr:z01 w z (.slice ar t.rows.length cr) t.rows) :
  Calls Tryz.prog 102 #[.agg #[.slice ac t.cols.length cc,.int .i64 t.head,.int .i64 t.foot,.slice ar t.rows.length cr,.int .i64 t.gap],.agg #[.int .i64 x.row,.int .i64 x.col,.int .i64 x.rows,.int .i64 x.cols,.int .i64 x.ins]] w fun e w'=>e=.returned (.string (zI t x))∧(zI t x).size≤maxLen∧Below w.heap.size w w':=by
 have HC:=Hd (zf0 ac ar cc cr t x hx);have hfl:=zdE;have K2:=ze (ze (Below.refl w.heap.size w) (.cells #[.slice ac t.cols.length cc,.int .i64 t.head,.int .i64 t.foot,.slice ar t.rows.length cr,.int .i64 t.gap] 26)) (.cells #[.int .i64 x.row,.int .i64 x.col,.int .i64 x.rows,.int .i64 x.cols,.int .i64 x.ins] 112);have HR:=Hd (hr.kept K2);have HK:=Hd K2;clear hr hx K2;go_enter Tryz.func102,Tryz.ntmps102;go_wp2_with fail
 refine (HC.out _ HR.out).mono ?_;rintro e w1 ⟨rfl,hsz,hb1⟩;have HK1:=Hd (zh HK.out hb1);clear hb1 HK HR HC;go_wp2;go_ret;exact ⟨rfl,hsz,HK1.out⟩
def z3r (js:List Nat):List Int:=js.map (fun k:Nat=>(k:Int))
theorem z2b (js:List Nat):(z3r js).length=js.length:=by simp [z3r]
theorem z9g {js:List Nat} {k:Nat} (h:k < js.length):(z3r js).getD k 0=((js.getD k 0:Nat):Int):=by simp [z3r,List.getD,h]
theorem zgA (js:List Nat) (k:Nat):z3r (js ++ [k])=z3r js ++ [(k:Int)]:=by simp [z3r]
theorem zhV {P:Nat→Bool} {n:Nat} (h:P n=true):zk P (n+1)=zk P n ++ [n]:=by rw [z8c,if_pos h]
theorem zj5 {P:Nat→Bool} {n:Nat} (h:P n=false):zk P (n+1)=zk P n:=by rw [z8c,if_neg (by rw [h];simp),List.append_nil]
theorem z46 (P:Nat→Bool) (n:Nat):(zk P n).length≤n:=by unfold zk;exact Nat.le_trans (List.length_filter_le _ _) (by simp)
theorem z8z {P:Nat→Bool} {n k:Nat} (h:k < (zk P n).length):(zk P n).getD k 0 < n∧P ((zk P n).getD k 0)=true:=by
 have e:(zk P n).getD k 0=(zk P n)[k]:=(by simp [List.getD,h]);rw [e];exact z3q h
def z4X (l:List Int) (k:Nat):List Int:=l.take k ++ List.replicate (l.length - k) 0
theorem z6x (l:List Int) {k:Nat} (h:k≤l.length):(z4X l k).length=l.length:=by simp [z4X];omega
theorem z9Z (l:List Int):z4X l 0=List.replicate l.length 0:=by simp [z4X]
theorem zby (l:List Int):z4X l l.length=l:=by simp [z4X]
theorem za0 {l:List Int} {k:Nat} (h:k < l.length):z4X l (k+1)=(z4X l k).set k (l.getD k 0):=by
 have e:List.replicate (l.length - k) (0:Int)=0 :: List.replicate (l.length - (k+1)) 0:=by
  rw [show l.length - k=(l.length - (k+1))+1 by omega,List.replicate_succ]
 have hl:(l.take k).length=k:=(by rw [List.length_take];omega);unfold z4X;rw [e,List.set_append_right _ _ (by omega),hl,Nat.sub_self,List.set_cons_zero,List.take_succ_eq_append_getElem h,show l.getD k 0=l[k] by simp [List.getD,h],List.append_assoc];rfl
structure Bk2 (r s:Nat) (w w':World):Prop where
 os:w'.os=w.os
 tape:w'.tape=w.tape
 output:w'.output=w.output
 size:w.heap.size≤w'.heap.size
 block:∀ k,k < w.heap.size→k ≠ r→k ≠ s→w'.heap[k]?=w.heap[k]?
theorem Bk2.refl (r s:Nat) (w:World):Bk2 r s w w:=⟨rfl,rfl,rfl,Nat.le_refl _,fun _ _ _ _=>rfl⟩
theorem Bk2.trans {r s:Nat} {a b c:World} (h:Bk2 r s a b) (k:Bk2 r s b c):Bk2 r s a c :=
 ⟨k.os.trans h.os,k.tape.trans h.tape,k.output.trans h.output,Nat.le_trans h.size k.size,fun i hi hr hs=>(k.block i (Nat.lt_of_lt_of_le hi h.size) hr hs).trans (h.block i hi hr hs)⟩
theorem Bk2.of_below {r s:Nat} {w w':World} (h:Below w.heap.size w w'):Bk2 r s w w':=⟨h.os,h.tape,h.output,h.size,fun k hk _ _=>h.block k hk⟩
theorem Bk2.set {r s:Nat} {a w:World} (h:Bk2 r s a w) {p:Addr} (hp:p.block=r∨p.block=s) (u:Value):Bk2 r s a (w.setCell p u) :=
 ⟨h.os,h.tape,h.output,by simpa [World.setCell] using h.size,fun k hk hr hs=>(Below.heap_setCell _ _ _ _ (by omega)).trans (h.block k hk hr hs)⟩
theorem Bk2.below {r s:Nat} {w w':World} (h:Bk2 r s w w') {n:Nat} (hn:n≤w.heap.size) (hr:n≤r) (hs:n≤s):Below n w w':=⟨h.os,h.tape,h.output,h.size,fun k hk=>h.block k (by omega) (by omega) (by omega)⟩
theorem zq.bk2 {w w':World} {B D r s:Nat} {v:Value} {l:List Int} (h:zq w B D v l) (k:Bk2 r s w w') (hr:r < B∨D≤r) (hs:s < B∨D≤s):zq w' B D v l:=h.kept (fun j h0 h1 h2=>k.block j h0 (by omega) (by omega))
def Sp (W:World) (sb:Nat) (ac ar:Option Addr) (cc cr:Nat) (t:T) (width:Int) (g cap C:Nat) (left:Int):Prop :=
 W.heap[sb]?=some (.cells #[.slice ac t.cols.length cc,.int .i64 t.head,.int .i64 t.foot,.slice ar t.rows.length cr,.int .i64 t.gap,.int .i64 width,.slice (some ⟨g,0,none⟩) C cap,.int .i64 left] 57)
theorem Sp.lt {W:World} {sb:Nat} {ac ar:Option Addr} {cc cr:Nat} {t:T} {width:Int} {g cap C:Nat} {left:Int} (h:Sp W sb ac ar cc cr t width g cap C left):sb < W.heap.size:=(bL h)
theorem Sp.kept {W W':World} {sb:Nat} {ac ar:Option Addr} {cc cr:Nat} {t:T} {width:Int} {g cap C:Nat} {left:Int} (h:Sp W sb ac ar cc cr t width g cap C left) (k:Below W.heap.size W W'):Sp W' sb ac ar cc cr t width g cap C left:=(k.block sb h.lt).trans h
theorem Sp.other {W:World} {sb:Nat} {ac ar:Option Addr} {cc cr:Nat} {t:T} {width:Int} {g cap C:Nat} {left:Int} (h:Sp W sb ac ar cc cr t width g cap C left) {p:Addr} (hp:sb ≠ p.block) (u:Value):Sp (W.setCell p u) sb ac ar cc cr t width g cap C left:=(Below.heap_setCell _ _ _ _ hp).trans h
theorem Sp.left {W:World} {sb:Nat} {ac ar:Option Addr} {cc cr:Nat} {t:T} {width:Int} {g cap C:Nat} {left:Int} (h:Sp W sb ac ar cc cr t width g cap C left) (x:Int):Sp (W.setCell ⟨sb,7,none⟩ (.int .i64 x)) sb ac ar cc cr t width g cap C x:=(z0l h (p:=7) (.int .i64 x)).trans (by simp)
theorem z6f {l:List Int} {js:List Nat} {g:List Int} {M N:Int} (hM:0≤M) (hl:∀ i,0≤l.getD i 0∧l.getD i 0≤M) (hg:∀ i,0≤g.getD i 0∧g.getD i 0≤N):∀ (k:Nat) (i:Nat),0≤(z0J l js g k).getD i 0∧(z0J l js g k).getD i 0≤M+k * N
 | 0,i=>by have:=hl i;simp only [z0J];omega
 | k+1,i=>by
  have h0:=z6f (js:=js) hM hl hg k i;have h1:=z6f (js:=js) hM hl hg k (js.getD k 0);have h2:=hg k;have e:((k+1:Nat):Int) * N=k * N+N:=(by rw [Int.natCast_add,Int.add_mul];simp);rw [e];simp only [z0J];generalize js.getD k 0=j at h1 ⊢;generalize z0J l js g k=L at h0 h1 ⊢;generalize g.getD k 0=x at h2 ⊢;by_cases hi:i=j
  ·subst hi;by_cases hlen:i < L.length
   ·have e2:(L.set i (L.getD i 0+x)).getD i 0=L.getD i 0+x:=(by rw [List.getD,List.getElem?_set_self hlen,Option.getD_some]);rw [e2];omega
   ·rw [List.set_eq_of_length_le (by omega)];omega
  ·have e2:(L.set j (L.getD j 0+x)).getD i 0=L.getD i 0:=(by rw [List.getD,List.getElem?_set_ne (Ne.symm hi)];rfl);rw [e2];omega
theorem z6g {l:List Int} (h:∀ i,i < l.length→0≤l.getD i 0∧l.getD i 0≤100000):l.all wtB=true:=by
 rw [List.all_eq_true];intro x hx;obtain ⟨i,hi,rfl⟩:=List.mem_iff_getElem.1 hx;have:=h i hi;rw [show l.getD i 0=l[i] by simp [List.getD,hi]] at this;simp only [wtB,decide_eq_true_eq];exact this
theorem z7p {left:Int} {l:List Int} (hok:zB left l=true):(z0x left l).all wtB=true:=by
 obtain ⟨l1,_,_,_,e1⟩:=z1Z hok;obtain ⟨_,_,hw⟩:=z03 hok;exact z6g (fun i hi=>by have:=e1 i (by omega);have:=z2W hw (i:=i) (by omega);omega)
theorem za1 {L want:List Int} {P:Nat→Bool} {left:Int} (hl:want.length=L.length) (hok:zB left want=true) (hz:∀ i,i < want.length→P i=false→want.getD i 0=0) :
  zB left (z09 want P L.length)=true∧(z0x left (z09 want P L.length)).length=(zk P L.length).length∧(z0x left (z09 want P L.length)).all wtB=true∧left - (z0x left (z09 want P L.length)).sum=z2d left want ∧
  z0J L (zk P L.length) (z0x left (z09 want P L.length)) (zk P L.length).length=z1g L (z0x left want):=by
 have hok':zB left (z09 want P L.length)=true:=(by rw [← hl];exact zgv hok);obtain ⟨e1,e2⟩:=zhT hok hz;rw [hl] at e1 e2;obtain ⟨a1,a2,a3,a4,a5⟩:=z1Z hok;obtain ⟨b1,b2,b3,b4,b5⟩:=z1Z hok';refine ⟨hok',by rw [b1,z2a],z7p hok',by rw [← e2];omega,?_⟩;rw [e1];refine zcX (by omega) (fun i hi hP=>?_);have:=a5 i (by omega);rw [hz i (by omega) hP] at this;omega
structure SpS (w0:World) (sb:Nat) (ac ar:Option Addr) (cc cr:Nat) (t:T) (width:Int) (g cap C D:Nat) (left:Int) (L:List Int) (W:World):Prop where
 bel:Below w0.heap.size w0 W
 sp:Sp W sb ac ar cc cr t width g cap C left
 row:zq W w0.heap.size D (.slice (some ⟨g,0,none⟩) C cap) L
theorem SpS.kept {w0:World} {sb:Nat} {ac ar:Option Addr} {cc cr:Nat} {t:T} {width:Int} {g cap C D:Nat} {left:Int} {L:List Int} {W W':World} (h:SpS w0 sb ac ar cc cr t width g cap C D left L W) (k:Below W.heap.size W W'):SpS w0 sb ac ar cc cr t width g cap C D left L W' :=
 ⟨zh h.bel k,h.sp.kept k,h.row.kept (fun j h0 _ _=>k.block j h0)⟩
theorem SpS.bk {w0:World} {sb:Nat} {ac ar:Option Addr} {cc cr:Nat} {t:T} {width:Int} {g cap C D r:Nat} {left:Int} {L:List Int} {W W':World} (h:SpS w0 sb ac ar cc cr t width g cap C D left L W) (k:Bk r W W') (hr:w0.heap.size≤r) (h1:r ≠ sb) (h2:D≤r):SpS w0 sb ac ar cc cr t width g cap C D left L W' :=
 ⟨h.bel.trans (k.below h.bel.size hr),(k.block sb h.sp.lt (Ne.symm h1)).trans h.sp,h.row.kept (fun j h0 _ h3=>k.block j h0 (by omega))⟩
theorem z8A (t:T) (q:Int) (k:Nat):((sd t.cols k).1 == q)=zm t q k:=by rw [Bool.eq_iff_iff];simp [zm]
theorem z7q (sb:Nat) (ac ar:Option Addr) (cc cr:Nat) (t:T) (width:Int) (g cap C:Nat) (left q:Int) (hC:C≤88) (w:World) {z:Nat} (hS:Sp w sb ac ar cc cr t width g cap C left) (hc:z07 w z (.slice ac t.cols.length cc) t.cols) :
  Calls Tryz.prog 56 #[.pointer (some ⟨sb,0,none⟩),.int .i64 q] w fun e w'=>∃ v,e=.returned v∧zq w' w.heap.size w'.heap.size v (z3r (zk (zm t q) C))∧Below w.heap.size w w':=by
 obtain ⟨i0,hi,hz0,hz1,hz2⟩:=info_parts z6T;have hf0:=zd1;have HS:=Hd hS;have HC:=Hd hc;have s6:w.cell? ⟨sb,6,none⟩=some (.slice (some ⟨g,0,none⟩) C cap):=zf hS;clear hS hc;go_enter Tryz.func56,Tryz.ntmps56;go_wp2_with fail
 clear s6;go_loopw [5,12] (fun o i W=>∃ k:Nat,i=.int .i64 k∧k≤C∧Hid (W.ownsRow w.heap.size 3 1 o (z3r (zk (zm t q) k)).length ((z3r (zk (zm t q) k)).map (Value.int .i64)))∧Hid (Below w.heap.size w W)) (fun _ i _=>C - (intOf i).toNat)
 case atStart=>exact ⟨0,rfl,Nat.zero_le _,⟨by simp [z3r,zk],.inl ⟨rfl,by simp [z3r,zk]⟩⟩,Below.refl _ _⟩
 case round =>
  obtain ⟨k,rfl,hk,HO,HB⟩:=hrel;by_cases hlt:k < C
  case neg =>
   obtain rfl:k=C:=by omega
   have HR:=Hd (zq.of_owns HO.out);go_wp2;go_ret;exact ⟨_,rfl,HR.out.base (Nat.le_refl _) (Nat.le_refl _),HB.out⟩
  have s0:wr.cell? ⟨sb,0,none⟩=some (.slice ac t.cols.length cc):=zf (HS.out.kept HB.out);have KS:=Hd (za2 _ t.cols (k:Int) wr (HC.out.kept HB.out));have hkq:=z8A t q k;have hol:(z3r (zk (zm t q) k)).length≤k:=(by rw [z2b];exact z46 _ _);generalize sd t.cols k=p at KS hkq
  cases hp:zm t q k with
  | false =>
   have HL:Hid (z3r (zk (zm t q) (k+1))=z3r (zk (zm t q) k)):=(by rw [Hid,zj5 hp]);rw [hp] at hkq;clear hp;go_wp2_with fail
   refine KS.out.mono ?_;rintro e w1 ⟨rfl,hb1⟩;have HB1:=Hd (zh HB.out hb1);have HO1:=Hd (zq.of_owns HO.out |>.kept (fun j h0 _ _=>hb1.block j h0));clear hb1 s0;go_wp2;go_roundw
   case rel=>exact ⟨k+1,by go_num,by omega,by rw [HL.out];exact HO1.out.owns,HB1⟩
   case measure=>simp [intOf];omega
  | true =>
   have HL:Hid (z3r (zk (zm t q) (k+1))=z3r (zk (zm t q) k) ++ [(k:Int)]):=(by rw [Hid,zhV hp,zgA]);rw [hp] at hkq;clear hp;generalize z3r (zk (zm t q) k)=xs at HO HL hol;go_wp2_with fail
   refine KS.out.mono ?_;rintro e w1 ⟨rfl,hb1⟩;have HB1:=Hd (zh HB.out hb1);have hO4:=(zq.of_owns HO.out |>.kept (fun j h0 _ _=>hb1.block j h0)).owns;have hsz:w.heap.size≤w1.heap.size:=HB1.out.size;clear hb1 s0;go_wp2_with (at_builtin;refine wpList_append_own _ rfl _ _ 36 rfl w.heap.size 3 i0 (.int .i64 0) 1 8 Tryz.underlying36 hi hz0 hz1 hz2 rfl (by decide) _ _ _ rfl (hO4.alloc _) ⟨w1.heap.size,0,none⟩ 1 1 [.int .i64 (k:Int)] rfl rfl ?c1 ?c2 ?c3 ?c4 ?c5 ?_)
   case c1 =>
    intro i u hi
    match i,hi with
    | 0,hi=>simp at hi;subst hi;simp [Addr.add]
   case c2=>intro u hu;simp at hu;subst hu;rfl
   case c3=>unfold maxLen;omega
   case c4=>omega
   case c5=>simp;omega
   intro v' w5 hown' hgrow' _;obtain ⟨hB5,_⟩:=z3i (Nat.le_refl _) hO4 HB1.out hgrow';have HB5:=Hd hB5;have HO5:Hid (w5.ownsRow w.heap.size 3 1 v' (xs ++ [(k:Int)]).length ((xs ++ [(k:Int)]).map (Value.int .i64))):=(by rw [List.length_append,List.map_append];exact hown');obtain ⟨g',cap'',rfl⟩:=Joins.ownsRow_form hown' (by omega);clear hown' hgrow' hO4 hB5 HO HB HB1;go_wp2;go_roundw
   case rel=>exact ⟨k+1,by go_num,by omega,by rw [HL.out];exact HO5,HB5⟩
   case measure=>simp [intOf];omega
end
section
open Go.RowKit Go.BigFrame
theorem z3s {G:List Int} (h:G.all wtB=true) (i:Nat):0≤G.getD i 0∧G.getD i 0≤100000:=by
 by_cases hi:i < G.length
 ·exact z2W h hi
 ·rw [show G.getD i 0=0 by simp [List.getD,hi]];omega
theorem z7r (sb:Nat) (ac ar:Option Addr) (cc cr:Nat) (t:T) (width:Int) (g cap C:Nat) (left:Int) (L G:List Int) (js:List Nat) (vc vg:Value) (B D B1:Nat) (hLC:L.length=C) (hjC:∀ k,k < js.length→js.getD k 0 < C) (hjl:js.length≤88) (hGl:G.length=js.length)
  (hLs:L.all wtB=true) (hGs:G.all wtB=true) (hl:0≤left∧left≤100000) (hgD:g < D) (hDs:D≤sb) (hs1:sb < B1) (w:World) (hS:Sp w sb ac ar cc cr t width g cap C left) (hR:zq w B D (.slice (some ⟨g,0,none⟩) C cap) L) (h1:zq w B1 w.heap.size vc (z3r js)) (h2:zq w B1 w.heap.size vg G) :
  Calls Tryz.prog 58 #[.pointer (some ⟨sb,0,none⟩),vc,vg] w fun e w'=>e=.returned (.tuple #[])∧Sp w' sb ac ar cc cr t width g cap C (left - G.sum)∧zq w' B D (.slice (some ⟨g,0,none⟩) C cap) (z0J L js G js.length)∧Bk2 g sb w w':=by
 have hmx:Tryz.prog.follows .mixedOrders=true:=(by kernel_rfl);obtain ⟨a1,c1,rfl⟩:=h1.form;obtain ⟨a2,c2,rfl⟩:=h2.form;rw [z2b] at h1 ⊢;rw [hGl] at h2 ⊢;have HGl:=Hd hGl;have H1:=Hd h1;have H2:=Hd h2;have HS:=Hd hS;have HR:=Hd hR;have HSm:=Hd (fun k i=>z6f (js:=js) (M:=100000) (N:=100000) (by omega) (z3s hLs) (z3s hGs) k i);have HSu:=Hd (z4d hGs);have HGg:=Hd (z3s hGs);have HjC:=Hd hjC;have HE:Hid (left - G.sum=left - zF G js.length):=(by rw [Hid,← hGl,z1v]);have HSu:Hid (∀ k,k≤js.length→0≤zF G k∧zF G k≤k * 100000):=fun k hk=>HSu.out k (by omega);clear h1 h2 hS hR hLs hGs hjC hGl;go_enter Tryz.func58,Tryz.ntmps58;go_wp2_with fail
 go_loopw [10] (fun s W=>∃ k:Nat,s=.int .i64 k∧k≤js.length∧Hid (Sp W sb ac ar cc cr t width g cap C (left - zF G k))∧Hid (zq W B D (.slice (some ⟨g,0,none⟩) C cap) (z0J L js G k))∧Hid (Bk2 g sb w W)) (fun s _=>js.length - (intOf s).toNat)
 case atStart=>exact ⟨0,rfl,Nat.zero_le _,by rw [show left - zF G 0=left by simp [zF]];exact HS,HR,Bk2.refl _ _ _⟩
 case round =>
  clear HS HR;obtain ⟨k,rfl,hk,HS,HR,HB⟩:=hrel;by_cases hlt:k < js.length
  case neg =>
   obtain rfl:k=js.length:=by omega
   go_wp2
   first
    | go_end0
    | skip
   exact ⟨rfl,by rw [HE.out];exact HS.out,HR.out,HB.out⟩
  obtain ⟨b1,c1',e1,hb1B,_,hb1w,hc11,hc12,hx1,_⟩:=(H1.out.bk2 HB.out (.inl (by omega)) (.inl hs1)).get (i:=k) (by rw [z2b];exact hlt);rw [z2b] at e1 hc11;rw [z9g hlt] at hx1;simp only [Value.slice.injEq,true_and] at e1;obtain ⟨rfl,rfl⟩:=e1;obtain ⟨b2,c2',e2,hb2B,_,hb2w,hc21,hc22,hx2,_⟩:=(H2.out.bk2 HB.out (.inl (by omega)) (.inl hs1)).get (i:=k) (by rw [HGl.out];exact hlt);rw [HGl.out] at e2 hc21;simp only [Value.slice.injEq,true_and] at e2;obtain ⟨rfl,rfl⟩:=e2;have hj:=HjC.out k hlt;have hgs:=z4V L js G k;obtain ⟨g',cap',e3,hgB,_,hgw,hc31,hc32,hx3,hf3⟩:=HR.out.get (i:=js.getD k 0) (by omega);rw [hgs,hLC] at e3 hc31;simp only [Value.slice.injEq,Option.some.injEq,Addr.mk.injEq,and_true,true_and] at e3;obtain ⟨rfl,rfl⟩:=e3;have hs3:=HSm.out k (js.getD k 0);have hy:=HGg.out k;have hsu:=HSu.out k (by omega);have HG1:Hid (z0J L js G (k+1)=(z0J L js G k).set (js.getD k 0) ((z0J L js G k).getD (js.getD k 0) 0+G.getD k 0)):=rfl;have HG2:Hid (left - zF G (k+1)=left - zF G k - G.getD k 0):=(by rw [Hid,z1A (by rw [HGl.out];exact hlt)];omega);unfold maxLen at hc12 hc22 hc32;have hne:=z0t wr;have m0:=zi (a:=⟨sb,6,none⟩) HS.out.lt (zf (p:=6) HS.out);have m1:=zi (a:=⟨g,js.getD k 0,none⟩) hgw hx3;have m2:=zi (a:=⟨b2,k,none⟩) hb2w hx2;generalize zF G k=su at HS hsu HG2;generalize hjj:js.getD k 0=j at *;generalize hxx:(z0J L js G k).getD j 0=x at *;generalize hyy:G.getD k 0=y at *;clear hx2 hx3 hf3;go_upto_region 3 with fail
  clear hx1;refine z17 13 hmx (by rfl) (by rfl) (by kernel_rfl) (by kernel_rfl) ?_;simp only [List.take_succ_cons,List.take_zero];repeat (go_big_quiet_step (fail))
  refine wpQuiet_nil ?_;intro W5 hw';obtain ⟨⟨Wx,hW5⟩,hw''⟩:=hw';subst hw'';have hlj:j < (z0J L js G k).length:=(by omega);have HR5:=Hd ((HR.out.kept (fun i h0 _ _=>hW5.block i h0)).set (i:=j) hlj (x+y));rw [← HG1.out] at HR5;have HS5:=Hd ((HS.out.kept hW5).other (p:=⟨g,j,none⟩) (show sb ≠ g by omega) (.int .i64 (x+y)));have HB5:=Hd ((HB.out.trans (Bk2.of_below hW5)).set (p:=⟨g,j,none⟩) (.inl rfl) (.int .i64 (x+y)));obtain ⟨g5,cap5,e5,_,_,hgw5,_,_,hx5,hf5⟩:=(HR.out.kept (fun i h0 _ _=>hW5.block i h0)).get (i:=j) hlj;simp only [Value.slice.injEq,Option.some.injEq,Addr.mk.injEq,and_true] at e5;have eg:=e5.1;clear e5;subst eg;clear m0 m1 m2 hne hW5 HR HS HB HG1 hs3;rw [if_pos (by rfl)];go_simp;clear hx5 hf5;go_upto_region 4 with fail
  generalize W5.setCell ⟨g,j,none⟩ (.int .i64 (x+y))=W6 at HR5 HS5 HB5 ⊢;obtain ⟨b2',c2'',e2,_,_,hb2w',_,_,hx2,_⟩:=(H2.out.bk2 HB5.out (.inl (by omega)) (.inl hs1)).get (i:=k) (by rw [HGl.out];exact hlt);rw [HGl.out] at e2;simp only [Value.slice.injEq,Option.some.injEq,Addr.mk.injEq,and_true,true_and] at e2;obtain ⟨rfl,rfl⟩:=e2;rw [hyy] at hx2;have hne:=z0t W6;have m0:=zi (a:=⟨sb,7,none⟩) HS5.out.lt (zf (p:=7) HS5.out);have m2:=zi (a:=⟨b2,k,none⟩) hb2w' hx2;clear hx2;refine z17 11 hmx (by rfl) (by rfl) (by kernel_rfl) (by kernel_rfl) ?_;simp only [List.take_succ_cons,List.take_zero];repeat (go_big_quiet_step (fail))
  refine wpQuiet_nil ?_;intro W7 hw';obtain ⟨⟨Wy,hW7⟩,hw''⟩:=hw';subst hw'';have HR7:=Hd ((HR5.out.kept (fun i h0 _ _=>hW7.block i h0)).kept (w':=W7.setCell ⟨sb,7,none⟩ (.int .i64 (left - su - y))) (fun i _ _ h2=>Below.heap_setCell _ _ _ _ (show i ≠ sb by omega)));have HS7:=Hd ((HS5.out.kept hW7).left (left - su - y));have HB7:=Hd ((HB5.out.trans (Bk2.of_below hW7)).set (p:=⟨sb,7,none⟩) (.inr rfl) (.int .i64 (left - su - y)));have hq7:W7.cell? ⟨sb,7,none⟩=some (.int .i64 (left - su)):=zf (p:=7) (HS5.out.kept hW7);have hf7:W7.frozen? ⟨sb,7,none⟩=false:=zM (p:=7) (HS5.out.kept hW7);clear m0 m2 hne hW7 HR5 HS5 HB5;rw [if_pos (by rfl)];go_simp;go_wp2;go_roundw
  case rel=>exact ⟨k+1,by go_num,by omega,by rw [HG2.out];exact HS7,HR7,HB7⟩
  case measure=>simp [intOf];omega
def z4l (t:T) (C:Nat) (left:Int) (L:List Int):List Int :=
 if 0 < (zk (zm t 0) C).length then z1g L (zt left (z0y (zm t 0) C)) else if 0 < (zk (zm t 2) C).length then z1g L (zt left (z0y (zm t 2) C)) else L
theorem zaJ:∀ {l:List Int},(∀ x ∈ l,0≤x)→0≤l.sum
 | [],_=>by simp
 | a :: r,h=>by
  have h1:=h a (by simp);have h2:=zaJ (l:=r) (fun x hx=>h x (by simp [hx]));simp only [List.sum_cons];omega
theorem zgG:∀ {l:List Int},(∀ x ∈ l,0≤x)→∀ x ∈ l,x≤l.sum
 | [],_,x,hx=>by cases hx
 | a :: r,h,x,hx=>by
  have h1:=h a (by simp);have h2:=zaJ (l:=r) (fun x hx=>h x (by simp [hx]));simp only [List.sum_cons]
  rcases List.mem_cons.1 hx with rfl | hx
  ·omega
  ·have:=zgG (l:=r) (fun x hx=>h x (by simp [hx])) x hx;omega
theorem za6 {l:List Int} (h:∀ i,i < l.length→0≤l.getD i 0) {i:Nat} (hi:i < l.length):l.getD i 0≤l.sum:=by
 rw [show l.getD i 0=l[i] by simp [List.getD,hi]];refine zgG (fun x hx=>?_) _ (List.getElem_mem hi);obtain ⟨j,hj,rfl⟩:=List.mem_iff_getElem.1 hx;have:=h j hj
 rwa [show l.getD j 0=l[j] by simp [List.getD,hj]] at this
theorem za7 {L:List Int} {P:Nat→Bool} {left:Int} {C:Nat} (hLC:L.length=C) (hC:C≤88) (ht:0≤left∧left≤100000) :
  zB left (List.replicate (zk P C).length 0)=true∧(zt left (List.replicate (zk P C).length 0)).length=(zk P C).length∧(zt left (List.replicate (zk P C).length 0)).all wtB=true ∧
  (0 < (zk P C).length→z0J L (zk P C) (zt left (List.replicate (zk P C).length 0)) (zk P C).length=z1g L (zt left (z0y P C)))∧((zk P C).length=0→z0J L (zk P C) (zt left (List.replicate (zk P C).length 0)) (zk P C).length=L):=by
 have hnl:=z46 P C;have hok:zB left (List.replicate (zk P C).length 0)=true:=zeW ht (by simp;omega) (fun i hi=>by rw [List.length_replicate] at hi;simp [List.getD,hi]);have hl:=z1r hok;rw [List.length_replicate] at hl;refine ⟨hok,hl,?_,fun h0=>?_,fun h0=>by rw [h0];rfl⟩
 ·by_cases h0:0 < (zk P C).length
  ·refine z6g (fun i hi=>?_);have h1:=z1w (t:=left) (l:=List.replicate (zk P C).length 0) i hi;have h2:=z3g hok (by simpa using h0);have h3:=za6 (l:=zt left (List.replicate (zk P C).length 0)) (fun j hj=>(z1w (t:=left) (l:=List.replicate (zk P C).length 0) j hj).1) hi;omega
  ·have:zt left (List.replicate (zk P C).length 0)=[]:=List.eq_nil_of_length_eq_zero (by omega);rw [this];rfl
 ·rw [z9T P ht (by omega) h0];have hok1:=z3e P (n:=C) ht (by omega);have h1:=z1r hok1;rw [z0R] at h1;have:=zcX (l:=L) (z0e:=zt left (z0y P C)) (P:=P) (by omega) (fun i hi hP=>z5O hok1 (by rw [z9f];omega) (by rw [z0R];omega) (by rw [z5i (by omega),if_neg (by rw [hP];simp)]));rw [hLC] at this;exact this
theorem zbU (w0:World) (sb:Nat) (ac ar:Option Addr) (cc cr:Nat) (t:T) (width:Int) (g cap C D:Nat) (left:Int) (L:List Int) {z:Nat} (hc:z07 w0 z (.slice ac t.cols.length cc) t.cols) (hC:C≤88) (hLC:L.length=C) (hLs:L.all wtB=true) (hg0:w0.heap.size≤g) (hgD:g < D) (hDs:D≤sb) (hleft:0≤left∧left≤100000) (w:World) (h:SpS w0 sb ac ar cc cr t width g cap C D left L w) :
  Calls Tryz.prog 25 #[.pointer (some ⟨sb,0,none⟩)] w fun e w'=>e=.returned (.tuple #[])∧(∃ left',SpS w0 sb ac ar cc cr t width g cap C D left' (z4l t C left L) w')∧Bk2 g sb w w':=by
 have H:=Hd h;have hsbw:sb < w.heap.size:=h.sp.lt;have HB0:=Hd (Below.refl w.heap.size w);have KO:=Hd (fun q W (h:SpS w0 sb ac ar cc cr t width g cap C D left L W)=>z7q sb ac ar cc cr t width g cap C left q hC W h.sp (hc.kept h.bel));clear h hc;by_cases hn0:0 < (zk (zm t 0) C).length
 ·have hne:(((zk (zm t 0) C).length:Int) == 0)=false:=beq_eq_false_iff_ne.2 (by omega);go_enter Tryz.func25,Tryz.ntmps25;go_wp2_with fail
  refine (KO.out 0 _ H.out).mono ?_;rintro e w1 ⟨v1,rfl,hr1,hb1⟩;obtain ⟨a1,c1,rfl⟩:=hr1.form;rw [z2b] at hr1 ⊢;have HS1:=Hd (H.out.kept hb1);have HB1:=Hd (zh HB0.out hb1);have HR1:=Hd hr1;have hz1:=hb1.size;have hmk:=z5t (zk (zm t 0) C).length (by have:=z46 (zm t 0) C;omega);have hnl:=z46 (zm t 0) C;obtain ⟨ok1,len1,all1,give1,give0⟩:=za7 (P:=zm t 0) (L:=L) (left:=left) hLC hC hleft;have HLt:=Hd (fun k (hk:k < (zk (zm t 0) C).length)=>(z8z hk).1)
  have HFin:Hid (z0J L (zk (zm t 0) C) (zt left (List.replicate (zk (zm t 0) C).length 0)) (zk (zm t 0) C).length=z4l t C left L):=by
   rw [Hid,z4l];rw [if_pos hn0];exact give1 hn0
  have HA1:=Hd all1;have HLn:=Hd len1;have HOk:=Hd ok1;generalize zk (zm t 0) C=js at hr1 HR1 hmk hnl HLt HFin HA1 HLn HOk hne hn0 ⊢;clear hr1 hb1 ok1 len1 all1 give1 give0;have hA2:=ze (Below.refl w1.heap.size w1) (.cells (z1d js.length) 3);have HN:=Hd (z47 w1 js.length (by omega));have hn2:(w1.alloc (.cells (z1d js.length) 3)).heap.size=w1.heap.size+1:=(by simp);have HS2:=Hd (HS1.out.kept hA2);have HR2:=Hd (HR1.out.kept (w':=w1.alloc (.cells (z1d js.length) 3)) (fun j h0 _ _=>hA2.block j h0));have HB2:=Hd (zh HB1.out hA2);clear HS1 HR1 HB1 hA2;go_upto_region 4 with fail
  generalize w1.alloc (.cells (z1d js.length) 3)=W2 at HN HS2 HR2 HB2 hn2 ⊢;generalize w1.heap.size=gb at HN HR2 hn2 hz1 ⊢;have s7:W2.cell? ⟨sb,7,none⟩=some (.int .i64 left):=zf (p:=7) HS2.out.sp;have KU:=Hd (z4Y left _ _ HOk.out W2 HN.out.at);go_wp2_with fail
  refine KU.out.mono ?_;rintro e w5 ⟨v5,rfl,hr5,hb5⟩;obtain ⟨a5,c5,rfl⟩:=hr5.form;have hz5:=hb5.size;generalize zt left (List.replicate js.length 0)=G at hr5 HFin HA1 HLn KU ⊢;have KG:=Hd (z7r sb ac ar cc cr t width g cap C left L G js (.slice a1 js.length c1) (.slice a5 G.length c5) w0.heap.size D w.heap.size hLC HLt.out (by omega) HLn.out hLs HA1.out hleft hgD hDs hsbw w5 (HS2.out.kept hb5).sp (HS2.out.kept hb5).row ((HR2.out.kept (fun j h0 _ _=>hb5.block j h0)).base (by omega) (by omega)) (hr5.base (by omega) (Nat.le_refl _)));have HB6:=Hd (zh HB2.out hb5);have HL6:=Hd ((HS2.out.kept hb5).bel);clear KU s7;go_wp2_with fail
  refine KG.out.mono ?_;rintro e w6 ⟨rfl,hs6,hr6,hb6⟩;have HF6:=Hd (SpS.mk (HL6.out.trans (hb6.below HL6.out.size hg0 (by omega))) hs6 hr6);rw [HFin.out] at HF6;have HK6:=Hd ((Bk2.of_below HB6.out).trans hb6);clear hs6 hr6 hb6;go_wp2
  go_end0
  exact ⟨rfl,⟨_,HF6.out⟩,HK6.out⟩
 ·have hl0:(zk (zm t 0) C).length=0:=(by omega);go_enter Tryz.func25,Tryz.ntmps25;go_wp2_with fail
  refine (KO.out 0 _ H.out).mono ?_;rintro e wa ⟨va,rfl,hra,hba⟩;obtain ⟨aa,ca,rfl⟩:=hra.form;rw [z2b,hl0] at hra ⊢;have Ha:=Hd (H.out.kept hba);have HBa:=Hd hba;have hza:=hba.size;clear hra hba;go_wp2_with fail
  refine (KO.out 2 _ Ha.out).mono ?_;rintro e w1 ⟨v1,rfl,hr1,hb1⟩;obtain ⟨a1,c1,rfl⟩:=hr1.form;rw [z2b] at hr1 ⊢;have HS1:=Hd (Ha.out.kept hb1);have HB1:=Hd (zh HBa.out hb1);have HR1:=Hd hr1;have hz1:=hb1.size;have hmk:=z5t (zk (zm t 2) C).length (by have:=z46 (zm t 2) C;omega);have hnl:=z46 (zm t 2) C;obtain ⟨ok1,len1,all1,give1,give0⟩:=za7 (P:=zm t 2) (L:=L) (left:=left) hLC hC hleft;have HLt:=Hd (fun k (hk:k < (zk (zm t 2) C).length)=>(z8z hk).1)
  have HFin:Hid (z0J L (zk (zm t 2) C) (zt left (List.replicate (zk (zm t 2) C).length 0)) (zk (zm t 2) C).length=z4l t C left L):=by
   rw [Hid,z4l];rw [if_neg hn0];by_cases hn2:0 < (zk (zm t 2) C).length
   ·rw [if_pos hn2];exact give1 hn2
   ·rw [if_neg hn2];exact give0 (by omega)
  have HA1:=Hd all1;have HLn:=Hd len1;have HOk:=Hd ok1;generalize zk (zm t 2) C=js at hr1 HR1 hmk hnl HLt HFin HA1 HLn HOk ⊢;clear hr1 hb1 ok1 len1 all1 give1 give0;have hA2:=ze (Below.refl w1.heap.size w1) (.cells (z1d js.length) 3);have HN:=Hd (z47 w1 js.length (by omega));have hn2:(w1.alloc (.cells (z1d js.length) 3)).heap.size=w1.heap.size+1:=(by simp);have HS2:=Hd (HS1.out.kept hA2);have HR2:=Hd (HR1.out.kept (w':=w1.alloc (.cells (z1d js.length) 3)) (fun j h0 _ _=>hA2.block j h0));have HB2:=Hd (zh HB1.out hA2);clear HS1 HR1 HB1 hA2;go_upto_region 4 with fail
  generalize w1.alloc (.cells (z1d js.length) 3)=W2 at HN HS2 HR2 HB2 hn2 ⊢;generalize w1.heap.size=gb at HN HR2 hn2 hz1 ⊢;have s7:W2.cell? ⟨sb,7,none⟩=some (.int .i64 left):=zf (p:=7) HS2.out.sp;have KU:=Hd (z4Y left _ _ HOk.out W2 HN.out.at);go_wp2_with fail
  refine KU.out.mono ?_;rintro e w5 ⟨v5,rfl,hr5,hb5⟩;obtain ⟨a5,c5,rfl⟩:=hr5.form;have hz5:=hb5.size;generalize zt left (List.replicate js.length 0)=G at hr5 HFin HA1 HLn KU ⊢;have KG:=Hd (z7r sb ac ar cc cr t width g cap C left L G js (.slice a1 js.length c1) (.slice a5 G.length c5) w0.heap.size D w.heap.size hLC HLt.out (by omega) HLn.out hLs HA1.out hleft hgD hDs hsbw w5 (HS2.out.kept hb5).sp (HS2.out.kept hb5).row ((HR2.out.kept (fun j h0 _ _=>hb5.block j h0)).base (by omega) (by omega)) (hr5.base (by omega) (Nat.le_refl _)));have HB6:=Hd (zh HB2.out hb5);have HL6:=Hd ((HS2.out.kept hb5).bel);clear KU s7;go_wp2_with fail
  refine KG.out.mono ?_;rintro e w6 ⟨rfl,hs6,hr6,hb6⟩;have HF6:=Hd (SpS.mk (HL6.out.trans (hb6.below HL6.out.size hg0 (by omega))) hs6 hr6);rw [HFin.out] at HF6;have HK6:=Hd ((Bk2.of_below HB6.out).trans hb6);clear hs6 hr6 hb6;go_wp2
  go_end0
  exact ⟨rfl,⟨_,HF6.out⟩,HK6.out⟩
end
end Go.Proofs.YtggmjiddadjilamGreat
