/-
  PROVED HERE: what a claim is, its three cells, and how two are held against each other. Also: 10 more texts of the same proof.
-/
import Derived.Test.YtggmjiddadjilahGreatJ21
import Derived.Shelf.SlSortCmp.KitK
set_option maxRecDepth 1000000
set_option maxHeartbeats 40000000
open Go.Proofs.Tryz
namespace Go.Proofs.YtggmjiddadjilahGreat
open Value (int)
open IntKind (i64)
section
open Go.RowKit Go.Shelf Go.Lib Go.Sort
structure Cl where
 p:Int
 w:Int
 o:Int
deriving Inhabited
def z1R (x:Cl):List Value:=[int i64 x.p,int i64 x.w,int i64 x.o]
def cfC (x y:Cl):Int:=if y.o < x.o then -1 else if x.o < y.o then 1 else 0
theorem z9o (x:Cl):(z1R x).length=3:=rfl
theorem z9p (x:Cl):∀ v ∈ z1R x,v.oneCell'=true:=λv hv=>by simp [z1R] at hv;rcases hv with rfl | rfl | rfl <;> rfl
def wts (l:List Int):List Int:=if l.sum=0 then List.replicate l.length 1 else l
theorem z3G (l:List Int):(wts l).length=l.length:=by unfold wts;split <;> simp
theorem z6p:∀ n:Nat,(List.replicate n (1:Int)).sum=n
 | 0=>rfl
 | n+1=>by rw [List.replicate_succ,List.sum_cons,z6p n];omega
theorem z8h {l:List Int} (h:l.all wtB=true):(wts l).all wtB=true:=by
 unfold wts
 split
 ·rw [List.all_eq_true];intro x hx;rw [(List.mem_replicate.1 hx).2];rfl
 ·exact h
theorem z5q {l:List Int} (h:l.all wtB=true) (h0:0 < l.length):0 < (wts l).sum:=by
 unfold wts
 split
 ·rw [z6p];omega
 ·have:=(z2G h).1;omega
def cl (t:Int) (u:List Int) (i:Nat):Cl:=⟨i,t * u.getD i 0 / u.sum,t * u.getD i 0 % u.sum⟩
def clL (t:Int) (u:List Int):List Cl:=(List.range u.length).map (cl t u)
theorem z4S (t:Int) (u:List Int):(clL t u).length=u.length:=by simp [clL]
theorem zaQ {t:Int} {u:List Int} {i:Nat} (h:i < u.length):(clL t u)[i]?=some (cl t u i):=by simp [clL,h]
theorem z8L {t:Int} {u:List Int} {i:Nat} (h:i < u.length):(clL t u).toArray[i]! = cl t u i:=by
 rw [getElem!_def,List.getElem?_toArray,zaQ h]
def za2 (n:Nat):Array Value:=madeCells (Value.agg #[int i64 0,int i64 0,int i64 0]).cells (n * 3)
theorem za3 (n:Nat):(za2 n).size=n * 3:=by rw [za2,size_madeCells]
theorem zkc:(prog.info? 195).map (λi=>(i.zero,i.size,i.bytes))=some (some (Value.agg #[int i64 0,int i64 0,int i64 0]),3,24):=by kernel_rfl
theorem zkd (n:Nat) (hn:n<=1048576) (u:World):(Instr.makeSlice 192 (int i64 (n:Int)) (int i64 (n:Int))).run prog u=.ok (.slice (some ⟨u.heap.size,0,none⟩) n n) (u.alloc (.cells (za2 n) 195)):=by
 obtain ⟨i0,hi,hz0,hz1,hz2⟩:=info_parts zkc;have h:=run_make (P:=prog) u 192 195 i0 _ underlying192 hi hz0 .i64 .i64 (n:Int) (n:Int) (by omega) (Int.le_refl _) (by rw [hz2];omega) (by omega);rw [hz1,Int.toNat_natCast] at h;exact h
def z7w (arr:Array Value) (L:Nat->Cl) (k:Nat):Prop:=∀ i,i < k->arr[i * 3]?=some (int i64 (L i).p)/\arr[i * 3+1]?=some (int i64 (L i).w)/\arr[i * 3+2]?=some (int i64 (L i).o)
theorem z7w.next {arr:Array Value} {L:Nat->Cl} {k n:Nat} (h:z7w arr L k) (hs:arr.size=n * 3) (hk:k < n) :
  z7w (((arr.setIfInBounds (k * 3) (int i64 (L k).p)).setIfInBounds (k * 3+1) (int i64 (L k).w)).setIfInBounds (k * 3+2) (int i64 (L k).o)) L (k+1):=by
 have eq:∀ (A:Array Value) (i:Nat) (v:Value),i < A.size->(A.setIfInBounds i v)[i]?=some v:=λA i v hi=>by simp [hi]
 intro i hi
 rcases Nat.lt_or_eq_of_le (Nat.lt_succ_iff.1 hi) with hlt | rfl
 ·obtain ⟨h1,h2,h3⟩:=h i hlt;refine ⟨?_,?_,?_⟩
  ·rw [Array.getElem?_setIfInBounds_ne (by omega),Array.getElem?_setIfInBounds_ne (by omega),Array.getElem?_setIfInBounds_ne (by omega)];exact h1
  ·rw [Array.getElem?_setIfInBounds_ne (by omega),Array.getElem?_setIfInBounds_ne (by omega),Array.getElem?_setIfInBounds_ne (by omega)];exact h2
  ·rw [Array.getElem?_setIfInBounds_ne (by omega),Array.getElem?_setIfInBounds_ne (by omega),Array.getElem?_setIfInBounds_ne (by omega)];exact h3
 ·refine ⟨?_,?_,?_⟩
  ·rw [Array.getElem?_setIfInBounds_ne (by omega),Array.getElem?_setIfInBounds_ne (by omega)];exact eq _ _ _ (by omega)
  ·rw [Array.getElem?_setIfInBounds_ne (by omega)];exact eq _ _ _ (by rw [Array.size_setIfInBounds];omega)
  ·exact eq _ _ _ (by rw [Array.size_setIfInBounds,Array.size_setIfInBounds];omega)
theorem zcS {w:World} {g n:Nat} {arr:Array Value} {T:TypeId} {L:Nat->Cl} {d:Array Cl} (hg:w.heap[g]?=some (.cells arr T)) (ha:z7w arr L n) (hd:d.size=n) (hL:∀ i,i < n->d[i]! = L i):HoldsK z1R 3 w g 0 d:=by
 intro j hj;rw [size_flatK,hd] at hj;have hq:j / 3 < n:=(by omega);obtain ⟨h1,h2,h3⟩:=ha (j / 3) hq;refine ⟨?_,zS hg⟩;rw [Nat.zero_add,zf hg,get_flatK _ _ _ _ (by rw [hd];exact hj),hL _ hq];show arr[j]?=some ((z1R (L (j / 3)))[j % 3]!)
 rcases (by omega:j % 3=0\/j % 3=1\/j % 3=2) with e | e | e
 ·rw [e];rw [show j=j / 3 * 3 by omega];rw [Nat.mul_div_cancel _ (by omega)];exact h1
 ·rw [e,show arr[j]?=arr[j / 3 * 3+1]? from by congr 1;omega];exact h2
 ·rw [e,show arr[j]?=arr[j / 3 * 3+2]? from by congr 1;omega];exact h3
theorem za4 {w:World} {g:Nat} {arr:Array Value} {t:Int} {u:List Int} (hg:w.heap[g]?=some (.cells arr 195)) (ha:z7w arr (cl t u) u.length):RowK z1R 3 w g 0 (clL t u).toArray :=
 ⟨z9o,z9p,zcS hg ha (by simp [z4S]) (λ_ hi=>z8L hi),(bL hg)⟩
theorem z8i {a s:Int} (hs:0 < s):0<=a % s/\a % s < s:=⟨Int.emod_nonneg _ (by omega),Int.emod_lt_of_pos _ hs⟩
theorem zcT (t:Int) (v:Value) (l:List Int) (ht:0<=t/\t<=100000) (h0:0 < l.length) (hl:l.length<=100) (hw:l.all wtB=true) (w:World) (h:zA w v l) :
  Calls prog 158 #[int i64 t,v] w λe w'=>∃ g,e=.returned (.slice (some ⟨g,0,none⟩) l.length l.length)/\w.heap.size<=g/\RowK z1R 3 w' g 0 (clL t (wts l)).toArray/\Below w.heap.size w w':=by
 obtain ⟨a,cap,rfl,_⟩:=h.form;have H:=O h;clear h;have HS:=O (λW=>z7S (.slice a l.length cap) l (by omega) hw W);have hmk:=zkd l.length (by omega);have hpos:=z5q hw h0;have hsb:=z2G (z8h hw);rw [z3G] at hsb;have HWT:=O (z8h hw);have HLN:=O (z3G l);by_cases hz:l.sum=0
 ·have hwt:wts l=List.replicate l.length 1:=(by rw [wts,if_pos hz]);have hsum:(wts l).sum=l.length:=(by rw [hwt,z6p]);have HZ:=O hz;have HSM:=O hsum;have HU:=O hwt;rw [hz] at HS;rw [hsum] at hpos hsb;generalize wts l=u at HWT HLN HSM HU |-;clear hz hsum hwt hw;go_enter func158,ntmps158;go_wp2_with fail
  refine (HS.out _ H.out).mono ?_;rintro e w1 ⟨rfl,e1⟩
  cases e1
  go_wp2_with fail
  refine (zff w.heap.size l.length h0 hl _ (by simp) (by simp)).mono ?_;rintro e w2 ⟨a2,cap2,rfl,hr2,hb2⟩
  have R2:Hid (zA w2 (.slice a2 l.length cap2) u):=by
   have:=hr2.at;rw [<-HU.out] at this;exact this
  have K2:=O (zi (ze (Below.refl w.heap.size w) (.cells #[int i64 1] 3)) hb2);clear hr2 hb2;go_wp2_with fail
  clear hmk;have hw2:=K2.out.size;go_loopw [24] (λi W=>∃ (k:Nat) (arr:Array Value),k<=l.length/\i=int i64 k/\Hid (W.heap[w2.heap.size]?=some (.cells arr 195))/\arr.size=l.length * 3/\Hid (z7w arr (cl t u) k)/\Hid (Below w2.heap.size w2 W)) (λi _=>l.length - (intOf i).toNat)
  case atStart=>exact ⟨0,za2 l.length,nZ,rfl,zj _ _,za3 _,λi hi=>absurd hi (Nat.not_lt_zero _),ze bR _⟩
  case round =>
   obtain ⟨k,arr,hk,rfl,HBk,hsz,HA,HB⟩:=hrel;by_cases hlt:k < l.length
   ·have hku:k < u.length:=(by rw [HLN.out];exact hlt);obtain ⟨b,off,cap',e',hc1,hc2,hbl,hx⟩:=(R2.out.kept HB.out).get hku;rw [HLN.out] at e' hc1;simp only [Value.slice.injEq,true_and] at e';obtain ⟨rfl,rfl⟩:=e';have hx0:=z2P HWT.out hku;have hm:=z5N ht hx0;have HN:=O (HA.out.next (n:=l.length) hsz hlt);have ecl:cl t u k=⟨k,t * u.getD k 0 / l.length,t * u.getD k 0 % l.length⟩:=(by rw [cl,HSM.out]);rw [ecl] at HN;generalize u.getD k 0=x at hx hx0 hm HN;clear ecl hku;unfold maxLen at hc2;obtain ⟨y0,q0⟩:=z8I (p:=k * 3) HBk.out (by omega);obtain ⟨y1,q1⟩:=z8I (p:=k * 3+1) HBk.out (by omega);obtain ⟨y2,q2⟩:=z8I (p:=k * 3+2) HBk.out (by omega);have fz:∀ p,wr.frozen? ⟨w2.heap.size,p,none⟩=false:=λp=>zS HBk.out;have hdv:=Int.ediv_nonneg hm.1 (show (0:Int)<=(l.length:Int) by omega);have hdw:=Int.le_trans (Int.ediv_le_self (l.length:Int) hm.1) hm.2;have hrm:=z8i (a:=t * x) (s:=(l.length:Int)) (by omega);go_wp2_with fail
    go_region
    all_goals
     go_wp2;go_roundw
     case rel=>exact ⟨k+1,_,by omega,by go_num,z0s (z0s (z0s HBk.out _) _) _,by rw [Array.size_setIfInBounds,Array.size_setIfInBounds,Array.size_setIfInBounds];exact hsz,HN,z2s (z2s (z2s (z0X HB.out) lR _) lR _) lR _⟩
     case measure=>simp [intOf];omega
   ·obtain rfl:k=l.length:=by omega
    go_wp2;go_ret;exact ⟨_,rfl,hw2,za4 HBk.out (by rw [HLN.out];exact HA.out),zi K2.out HB.out⟩
 ·have hwt:wts l=l:=(by rw [wts,if_neg hz]);rw [hwt] at hpos hsb |-;have hzb:(l.sum == 0)=false:=(by simpa using hz);have HG:=O (λi hi=>z2P (i:=i) hw hi);have HSM:Hid (∀ k,cl t l k=⟨k,t * l.getD k 0 / l.sum,t * l.getD k 0 % l.sum⟩):=λ_=>rfl;generalize l.sum=s at HS HSM hpos hsb hzb hz;clear HWT HLN hwt hw;go_enter func158,ntmps158;go_wp2_with fail
  refine (HS.out _ H.out).mono ?_;rintro e w1 ⟨rfl,e1⟩
  cases e1
  go_wp2_with fail
  clear hmk;go_loopw [24] (λi W=>∃ (k:Nat) (arr:Array Value),k<=l.length/\i=int i64 k/\Hid (W.heap[w.heap.size]?=some (.cells arr 195))/\arr.size=l.length * 3/\Hid (z7w arr (cl t l) k)/\Hid (Below w.heap.size w W)) (λi _=>l.length - (intOf i).toNat)
  case atStart=>exact ⟨0,za2 l.length,nZ,rfl,zj _ _,za3 _,λi hi=>absurd hi (Nat.not_lt_zero _),ze bR _⟩
  case round =>
   obtain ⟨k,arr,hk,rfl,HBk,hsz,HA,HB⟩:=hrel;by_cases hlt:k < l.length
   ·obtain ⟨b,off,cap',e',hc1,hc2,hbl,hx⟩:=(H.out.kept HB.out).get hlt;simp only [Value.slice.injEq,true_and] at e';obtain ⟨rfl,rfl⟩:=e';have hx0:=HG.out k hlt;have hm:=z5N ht hx0;have HN:=O (HA.out.next (n:=l.length) hsz hlt);rw [HSM.out k] at HN;generalize l.getD k 0=x at hx hx0 hm HN;unfold maxLen at hc2;obtain ⟨y0,q0⟩:=z8I (p:=k * 3) HBk.out (by omega);obtain ⟨y1,q1⟩:=z8I (p:=k * 3+1) HBk.out (by omega);obtain ⟨y2,q2⟩:=z8I (p:=k * 3+2) HBk.out (by omega);have fz:∀ p,wr.frozen? ⟨w.heap.size,p,none⟩=false:=λp=>zS HBk.out;have hdv:=Int.ediv_nonneg hm.1 (show (0:Int)<=s by omega);have hdw:=Int.le_trans (Int.ediv_le_self s hm.1) hm.2;have hrm:=z8i (a:=t * x) (s:=s) (by omega);go_wp2_with fail
    go_region
    all_goals
     go_wp2;go_roundw
     case rel=>exact ⟨k+1,_,by omega,by go_num,z0s (z0s (z0s HBk.out _) _) _,by rw [Array.size_setIfInBounds,Array.size_setIfInBounds,Array.size_setIfInBounds];exact hsz,HN,z2s (z2s (z2s (z0X HB.out) lR _) lR _) lR _⟩
     case measure=>simp [intOf];omega
   ·obtain rfl:k=l.length:=by omega
    go_wp2;go_ret;exact ⟨_,rfl,lR,za4 HBk.out HA.out,HB.out⟩
end
section
open Go.Sort
theorem zjy (x y:Cl):ltOf cfC x y=decide (y.o < x.o):=by
 unfold ltOf cfC
 split
 ·simp;omega
 ·split <;> (simp;omega)
def tB (x y:Cl):Bool:=decide (y.o < x.o\/(x.o=y.o/\(x.p < y.p\/(x.p=y.p/\x.w < y.w))))
theorem z6q (x y:Cl):tB x y=true ↔ (y.o < x.o\/(x.o=y.o/\(x.p < y.p\/(x.p=y.p/\x.w < y.w)))):=by simp [tB]
theorem z8j (x y:Cl):tB x y=false ↔ ¬ (y.o < x.o\/(x.o=y.o/\(x.p < y.p\/(x.p=y.p/\x.w < y.w)))):=by rw [<-z6q];simp
theorem z4t:SWO tB where
 irrefl:=λx=>by rw [z8j];omega
 trans:=λx y z h1 h2=>by rw [z6q] at *;omega
 ntrans:=λx y z h1 h2=>by rw [z8j] at *;omega
theorem zit (x y:Cl) (h1:tB x y=false) (h2:tB y x=false):x=y:=by
 rw [z8j] at h1 h2;obtain ⟨a,b,c⟩:=x;obtain ⟨a',b',c'⟩:=y;simp only at h1 h2;obtain rfl:a=a':=by omega
 obtain rfl:b=b':=by omega
 obtain rfl:c=c':=by omega
 rfl
theorem zcj {x y:Cl} (h:y.p < x.p):ltOf cfC x y=tB x y:=by
 rw [zjy,Bool.eq_iff_iff,z6q,decide_eq_true_eq];omega
theorem z6r {x y:Cl} (h:tB x y=true):tB y x=false:=z4t.asymmA h
theorem za6 (lt:Cl->Cl->Bool) (a b:Nat):∀ (j:Nat) (d:Array Cl),a<=j->j < b->b<=d.size->PermIn a b d (insInner lt a j d)
 | 0,d,_,_,_=>by unfold insInner;exact permIn_refl d a b
 | j+1,d,haj,hjb,hb=>by
  unfold insInner
  split
  ·rename_i hc
   simp only [Bool.and_eq_true,decide_eq_true_eq] at hc;exact permIn_trans _ _ _ a b (swp_permIn d a b (j+1) j haj hjb (by omega) (by omega) hb) (za6 lt a b j _ (by omega) (by omega) (by rw [size_swp];exact hb))
  ·exact permIn_refl d a b
theorem zcU (a:Nat):∀ (j:Nat) (d:Array Cl),j < d.size->(∀ q,a<=q->q < j->d[q]!.p < d[j]!.p)->insInner (ltOf cfC) a j d=insInner tB a j d
 | 0,d,_,_=>by unfold insInner;rfl
 | j+1,d,hj,h=>by
  unfold insInner;by_cases ha:j+1 > a
  ·have e:ltOf cfC d[j+1]! d[j]! = tB d[j+1]! d[j]! := zcj (h j (by omega) (by omega));rw [e]
   cases hc:tB d[j+1]! d[j]!
   ·simp
   ·simp only [ha,decide_true,Bool.and_self,if_true];refine zcU a j _ (by rw [size_swp];omega) (λq h1 h2=>?_);rw [swp_right _ _ _ (by omega),swp_other _ _ _ _ (by omega) (by omega)];exact h q h1 (by omega)
  ·simp [ha]
theorem zcV (a b:Nat):∀ (n i:Nat) (d:Array Cl),b - i=n->a < i->b<=d.size->(∀ x y,a<=x->x < y->i<=y->y < b->d[x]!.p < d[y]!.p)->insOuter (ltOf cfC) a b i d=insOuter tB a b i d
 | 0,i,d,hn,_,_,_=>by rw [insOuter_stop _ _ _ _ _ (by omega),insOuter_stop _ _ _ _ _ (by omega)]
 | n+1,i,d,hn,hai,hb,h=>by
  have hlt:i < b:=(by omega);rw [insOuter_go _ _ _ _ _ hlt,insOuter_go _ _ _ _ _ hlt,zcU a i d (by omega) (λq h1 h2=>h q i h1 h2 lR hlt)];have hP:=za6 tB a (i+1) i d (by omega) (by omega) (by omega);refine zcV a b n (i+1) _ (by omega) (by omega) (by rw [hP.1];exact hb) (λx y h1 h2 h3 h4=>?_);rw [hP.2.1 y (Or.inr h3)];by_cases hx:x < i+1
  ·exact permIn_all d _ a (i+1) (λz=>z.p < d[y]!.p) (by omega) hP (λq h5 h6=>h q y h5 (by omega) (by omega) h4) x h1 hx
  ·rw [hP.2.1 x (Or.inr (by omega))];exact h x y h1 h2 (by omega) h4
def Asc (a b:Nat) (d:Array Cl):Prop:=∀ x y,a<=x->x < y->y < b->d[x]!.p < d[y]!.p
theorem zbB (d:Array Cl) (a b:Nat) (hab:a<=b) (hb:b<=d.size) (h:Asc a b d):PermIn a b d (Sort.insertionSort (ltOf cfC) d a b)/\SortedIn tB a b (Sort.insertionSort (ltOf cfC) d a b):=by
 have e:Sort.insertionSort (ltOf cfC) d a b=Sort.insertionSort tB d a b:=by
  unfold Sort.insertionSort;exact zcV a b (b - (a+1)) (a+1) d rfl (by omega) hb (λx y h1 h2 _ h4=>h x y h1 h2 h4)
 rw [e];exact insertionSort_holds z4t d a b hab hb
def z0C (t:Int) (u:List Int):List Int:=(clL t u).map (·.w)
theorem z0A (t:Int) (u:List Int):(z0C t u).length=u.length:=by simp [z0C,z4S]
theorem z4T {t:Int} {u:List Int} {i:Nat} (h:i < u.length):(z0C t u).getD i 0=t * u.getD i 0 / u.sum:=by
 rw [List.getD,z0C,List.getElem?_map,zaQ h];rfl
theorem z4U {t:Int} {l:List Int} (h:zI t l=true):zI t (wts l)=true:=by
 simp only [zI,Bool.and_eq_true] at h |-;obtain ⟨⟨h1,h2⟩,h3⟩:=h;exact ⟨⟨h1,by rw [z3G];exact h2⟩,z8h h3⟩
theorem z5r {t:Int} {u:List Int} (h:zI t u=true) (hs:0 < u.sum):∀ k,k<=u.length->zK (z0C t u) k=z19 t u k
 | 0,_=>by simp [zK,z19]
 | k+1,hk=>by
  have hlt:k < u.length:=(by omega);rw [z1w (by rw [z0A];exact hlt),z5r h hs k (by omega),z4T hlt,z19,z6c h (z6d hlt) (by omega),Int.toNat_natCast]
theorem z5X {t:Int} {u:List Int}:∀ {i j:Nat},i<=j->z19 t u i<=z19 t u j
 | i,0,h=>by
  obtain rfl:i=0:=by omega
  exact Int.le_refl _
 | i,j+1,h=>by
  rcases Nat.lt_or_eq_of_le h with h1 | rfl
  ·have:=z5X (t:=t) (u:=u) (i:=i) (j:=j) (by omega);have:=(z97 (t:=t) (l:=u) j).1;rw [z19];omega
  ·exact Int.le_refl _
def z2D (t:Int) (u:List Int):Nat:=(t - z19 t u u.length).toNat
theorem z6e {t:Int} {u:List Int} (h:zI t u=true) (hs:0 < u.sum):(z2D t u:Int)=t - z19 t u u.length/\z2D t u < u.length:=by
 have:=z54 h hs;unfold z2D;omega
theorem zke (t:Int) (u:List Int):Asc 0 (clL t u).toArray.size (clL t u).toArray:=by
 intro x y _ h1 h2;have h3:y < u.length:=(by simpa [z4S] using h2);rw [z8L (by omega),z8L h3];show (x:Int) < (y:Int);omega
def z04 (t:Int) (u:List Int):List Cl:=(clL t u).mergeSort (λx y=>!tB y x)
theorem z5s (t:Int) (u:List Int):(z04 t u).length=u.length:=by rw [z04,List.length_mergeSort,z4S]
theorem z6s {t:Int} {u:List Int} {c:Cl} (h:c ∈ z04 t u):∃ i,i < u.length/\c=cl t u i:=by
 rw [z04,List.mem_mergeSort,clL,List.mem_map] at h;obtain ⟨i,h1,h2⟩:=h;exact ⟨i,List.mem_range.1 h1,h2.symm⟩
theorem zkf {t:Int} {u:List Int} {d:Array Cl} (hp:PermIn 0 (clL t u).toArray.size (clL t u).toArray d) (hs:SortedIn tB 0 (clL t u).toArray.size d):d=(z04 t u).toArray:=by
 have h:=sorted_unique_holds z4t zit (clL t u).toArray d hp hs;apply Array.toList_inj.1;rw [h];simp [z04]
def z8k (g:List Int) (c:Cl):List Int:=g.set c.p.toNat (g.getD c.p.toNat 0+1)
theorem ziu (g:List Int) (c:Cl):(z8k g c).length=g.length:=by simp [z8k]
def z1s (g:List Int) (s:List Cl) (k:Nat):List Int:=(s.take k).foldl z8k g
theorem z5Y (g:List Int) (s:List Cl):z1s g s 0=g:=rfl
theorem z55 {g:List Int} {s:List Cl} {k:Nat} (h:k < s.length):z1s g s (k+1)=z8k (z1s g s k) s[k]:=by
 unfold z1s;rw [List.take_add_one,List.foldl_append,List.getElem?_eq_getElem h];rfl
theorem z4V (g:List Int) (s:List Cl):∀ k,(z1s g s k).length=g.length:=by
 intro k;unfold z1s
 induction s.take k generalizing g with
 | nil=>rfl
 | cons c r ih=>rw [List.foldl_cons,ih,ziu]
theorem zcW (g:List Int) (c:Cl) (i:Nat) (hi:i < g.length):(z8k g c).getD i 0=if c.p.toNat=i then g.getD i 0+1 else g.getD i 0:=by
 unfold z8k;by_cases e:c.p.toNat=i
 ·subst e;simp [List.getD,hi]
 ·simp [List.getD,List.getElem?_set_ne e,e]
theorem z5J {g:List Int} {s:List Cl} {B:Int} (hg:∀ i,i < g.length->0<=g.getD i 0/\g.getD i 0<=B):∀ k,k<=s.length->∀ i,i < g.length->0<=(z1s g s k).getD i 0/\(z1s g s k).getD i 0<=B+k
 | 0,_,i,hi=>by have:=hg i hi;rw [z5Y];omega
 | k+1,hk,i,hi=>by
  have ih:=z5J (s:=s) hg k (by omega) i hi;rw [z55 (show k < s.length by omega),zcW _ _ _ (by rw [z4V];exact hi)]
  split <;> omega
def zy (t:Int) (l:List Int):List Int:=if zI t l=true/\l ≠ [] then z1s (z0C t (wts l)) (z04 t (wts l)) (z2D t (wts l)) else []
theorem z4w {t:Int} {l:List Int} (h:¬ (zI t l=true/\l ≠ [])):zy t l=[]:=by rw [zy,if_neg h]
theorem z2I {t:Int} {l:List Int} (h1:zI t l=true) (h2:l ≠ []):zy t l=z1s (z0C t (wts l)) (z04 t (wts l)) (z2D t (wts l)):=by rw [zy,if_pos ⟨h1,h2⟩]
theorem z1B {t:Int} {l:List Int} (h1:zI t l=true):(zy t l).length=l.length:=by
 by_cases h2:l=[]
 ·subst h2;rw [z4w (by simp)]
 ·rw [z2I h1 h2,z4V,z0A,z3G]
theorem z7x {t:Int} {u:List Int} (h:zI t u=true) (hs:0 < u.sum) {i:Nat} (hi:i < u.length):0<=(z0C t u).getD i 0/\(z0C t u).getD i 0<=100000:=by
 have h1:=z5r h hs i (by omega);have h2:=z5r h hs (i+1) (by omega);rw [z1w (by rw [z0A];exact hi)] at h2;have h3:=z5X (t:=t) (u:=u) (i:=i+1) (j:=u.length) (by omega);have h4:=(z54 h hs).1;have h5:=(z0d h).1;have h6:=z5W (t:=t) (l:=u) i
 have h7:0<=(z0C t u).getD i 0:=by
  rw [z4T hi];have hw:=(z0d h).2.2;exact Int.ediv_nonneg (z5N h5 (z2P hw hi)).1 (by omega)
 exact ⟨h7,by omega⟩
theorem z1G {t:Int} {l:List Int} (i:Nat) (hi:i < (zy t l).length):0<=(zy t l).getD i 0/\(zy t l).getD i 0<=100200:=by
 by_cases hc:zI t l=true/\l ≠ []
 ·obtain ⟨h1,h2⟩:=hc;have hw:=(z0d h1).2;have h0:0 < l.length:=List.length_pos_iff.2 h2;have hp:=z5q hw.2 h0;have hl:=z6e (z4U h1) hp;rw [z1B h1] at hi;rw [z2I h1 h2];have:=z5J (B:=100000) (s:=z04 t (wts l)) (λj hj=>z7x (z4U h1) hp (by rw [z0A] at hj;exact hj)) (z2D t (wts l)) (by rw [z5s];omega) i (by rw [z0A,z3G];exact hi);rw [z3G] at hl;omega
 ·rw [z4w hc] at hi
  cases hi
def z3J (t:Int) (u:List Int):List Int:=(clL t u).map (·.o)
theorem z41 (t:Int) (u:List Int):(z3J t u).length=u.length:=by simp [z3J,z4S]
theorem z7y {t:Int} {u:List Int} {i:Nat} (h:i < u.length):(z3J t u).getD i 0=t * u.getD i 0 % u.sum:=by
 rw [List.getD,z3J,List.getElem?_map,zaQ h];rfl
theorem zbC {l:List Int} {k:Nat} (h:k < l.length):l.take (k+1)=l.take k ++ [l.getD k 0]:=by
 rw [List.take_add_one];simp [List.getD,h]
def z2X (lr:List Int) (bl:List Bool) (m:Nat) (k:Int):Prop :=
 (k=-1/\∀ i,i < m->bl.getD i false=true)\/∃ j:Nat,k=j/\j < m/\bl.getD j false=false/\∀ i,i < m->bl.getD i false=false->lr.getD i 0 < lr.getD j 0\/(lr.getD i 0=lr.getD j 0/\j<=i)
theorem z2X.zero (lr:List Int) (bl:List Bool):z2X lr bl 0 (-1):=.inl ⟨rfl,λ_ h=>absurd h (Nat.not_lt_zero _)⟩
theorem z2X.got {lr:List Int} {bl:List Bool} {m:Nat} {k:Int} (h:z2X lr bl m k) (hb:bl.getD m false=true):z2X lr bl (m+1) k:=by
 rcases h with ⟨h1,h2⟩ | ⟨j,h1,h2,h3,h4⟩
 ·refine .inl ⟨h1,λi hi=>?_⟩
  rcases Nat.lt_or_eq_of_le (Nat.lt_succ_iff.1 hi) with h | rfl
  ·exact h2 i h
  ·exact hb
 ·refine .inr ⟨j,h1,by omega,h3,λi hi hn=>?_⟩
  rcases Nat.lt_or_eq_of_le (Nat.lt_succ_iff.1 hi) with h | rfl
  ·exact h4 i h hn
  ·rw [hb] at hn;cases hn
theorem z2X.first {lr:List Int} {bl:List Bool} {m:Nat} (h:∀ i,i < m->bl.getD i false=true) (hb:bl.getD m false=false):z2X lr bl (m+1) m:=by
 refine .inr ⟨m,rfl,Nat.lt_succ_self _,hb,λi hi hn=>?_⟩
 rcases Nat.lt_or_eq_of_le (Nat.lt_succ_iff.1 hi) with h1 | rfl
 ·rw [h i h1] at hn;cases hn
 ·exact .inr ⟨rfl,lR⟩
theorem z2X.more {lr:List Int} {bl:List Bool} {m j:Nat} (h4:∀ i,i < m->bl.getD i false=false->lr.getD i 0 < lr.getD j 0\/(lr.getD i 0=lr.getD j 0/\j<=i)) (hb:bl.getD m false=false) (hm:lr.getD j 0 < lr.getD m 0):z2X lr bl (m+1) m:=by
 refine .inr ⟨m,rfl,Nat.lt_succ_self _,hb,λi hi hn=>?_⟩
 rcases Nat.lt_or_eq_of_le (Nat.lt_succ_iff.1 hi) with h1 | rfl
 ·have:=h4 i h1 hn;left;omega
 ·exact .inr ⟨rfl,lR⟩
theorem z2X.less {lr:List Int} {bl:List Bool} {m j:Nat} (hj:j < m) (h3:bl.getD j false=false) (h4:∀ i,i < m->bl.getD i false=false->lr.getD i 0 < lr.getD j 0\/(lr.getD i 0=lr.getD j 0/\j<=i)) (hm:¬ lr.getD j 0 < lr.getD m 0):z2X lr bl (m+1) j:=by
 refine .inr ⟨j,rfl,by omega,h3,λi hi hn=>?_⟩
 rcases Nat.lt_or_eq_of_le (Nat.lt_succ_iff.1 hi) with h1 | rfl
 ·exact h4 i h1 hn
 ·omega
theorem z7z (t:Int) (u:List Int):(z04 t u).Pairwise (λx y=>tB y x=false):=by
 have:=List.pairwise_mergeSort (le:=λx y:Cl=>!tB y x) (λa b c h1 h2=>by
   simp only [Bool.not_eq_true'] at h1 h2 |-;exact z4t.ntrans c b a h2 h1) (λa b=>by
   cases h:tB b a with
   | false=>simp
   | true=>simp [z6r h]) (clL t u)
 exact this.imp (λh=>by simpa using h)
theorem z42 (t:Int) (u:List Int) (i:Nat):(cl t u i).p=i:=rfl
theorem zbD (t:Int) (u:List Int):(z04 t u).Nodup:=by
 rw [z04,(List.mergeSort_perm _ _).nodup_iff,clL];refine List.Pairwise.map _ (λa b (h:a ≠ b) e=>h ?_) List.nodup_range;have:=congrArg Cl.p e;rw [z42,z42] at this;omega
theorem zeB {t:Int} {u:List Int} {i:Nat} (h:i < u.length):cl t u i ∈ z04 t u:=by
 rw [z04,List.mem_mergeSort,clL];exact List.mem_map.2 ⟨i,List.mem_range.2 h,rfl⟩
def zcX (t:Int) (u:List Int) (bl:List Bool) (j:Nat):Prop:=∀ i,i < u.length->(bl.getD i false=true ↔ cl t u i ∈ (z04 t u).take j)
theorem ziv (t:Int) (u:List Int) (n:Nat):zcX t u (List.replicate n false) 0:=λi _=>by
 simp only [List.take_zero,List.not_mem_nil,iff_false];by_cases h:i < n <;> simp [List.getD,h]
theorem zjz {t:Int} {u:List Int} {bl:List Bool} {j:Nat} {k:Int} (hj:j < (z04 t u).length) (hg:zcX t u bl j) (hn:z2X (z3J t u) bl u.length k):∃ i,i < u.length/\(z04 t u)[j]=cl t u i/\k=i/\bl.getD i false=false:=by
 obtain ⟨i,hi,he⟩:=z6s (List.getElem_mem hj)
 have hno:bl.getD i false=false:=by
  cases hb:bl.getD i false with
  | false=>rfl
  | true =>
   exfalso
   have hm:=(hg i hi).1 hb;rw [<-he] at hm;obtain ⟨q,hq,hqe⟩:=List.getElem_of_mem hm;rw [List.length_take] at hq;rw [List.getElem_take] at hqe;exact List.pairwise_iff_getElem.1 (zbD t u) q j (by omega) hj (by omega) hqe
 refine ⟨i,hi,he,?_,hno⟩
 rcases hn with ⟨_,h2⟩ | ⟨j',h1,h2,h3,h4⟩
 ·rw [h2 i hi] at hno;cases hno
 ·have hx:=h4 i hi hno
  have hm':cl t u j' ∈ (z04 t u).drop j:=by
   have:=zeB (t:=t) h2;rw [<-List.take_append_drop j (z04 t u),List.mem_append] at this
   rcases this with h | h
   ·exfalso
    rw [(hg j' h2).2 h] at h3
    cases h3
   ·exact h
  have hle:tB (cl t u j') (cl t u i)=false:=by
   rw [List.drop_eq_getElem_cons hj,List.mem_cons] at hm'
   rcases hm' with h | h
   ·rw [h,he];exact z4t.irrefl _
   ·have hp:=List.pairwise_iff_getElem.1 (z7z t u);obtain ⟨q,hq,hqe⟩:=List.getElem_of_mem h;rw [List.length_drop] at hq;rw [List.getElem_drop] at hqe;have:=hp j (j+1+q) hj (by omega) (by omega);rw [hqe,he] at this;exact this
  rw [z8j] at hle;rw [z7y hi,z7y h2] at hx;simp only [cl] at hle;rw [h1];omega
theorem ziw {t:Int} {u:List Int} {bl:List Bool} {j i:Nat} (hl:bl.length=u.length) (hj:j < (z04 t u).length) (hg:zcX t u bl j) (he:(z04 t u)[j]=cl t u i):zcX t u (bl.set i true) (j+1):=by
 intro q hq;rw [List.take_add_one,List.mem_append,List.getElem?_eq_getElem hj,he];by_cases e:i=q
 ·subst e;simp [List.getD,hl,hq]
 ·have h1:(bl.set i true).getD q false=bl.getD q false:=(by simp [List.getD,List.getElem?_set_ne e]);rw [h1,hg q hq];simp only [Option.toList_some,List.mem_singleton];constructor
  ·exact Or.inl
  ·rintro (h | h)
   ·exact h
   ·exfalso
    have:=congrArg Cl.p h;rw [z42,z42] at this;omega
instance:DecidableEq Cl:=λa b=>decidable_of_iff (a.p=b.p/\a.w=b.w/\a.o=b.o) (by cases a;cases b;simp)
theorem zix {a b:List Int} (h:a.Perm b):a.sum=b.sum:=by
 induction h with
 | nil=>rfl
 | cons x _ ih=>rw [List.sum_cons,List.sum_cons,ih]
 | swap x y l=>simp only [List.sum_cons];omega
 | trans _ _ h1 h2=>exact h1.trans h2
theorem zjA {l:List Int}:∀ {i:Nat},i < l.length->∀ x,(l.set i x).sum=l.sum - l.getD i 0+x:=by
 induction l with
 | nil=>intro i hi;cases hi
 | cons y r ih =>
  intro i hi x
  cases i with
  | zero=>simp [List.getD];omega
  | succ k =>
   have:=ih (i:=k) (by simpa using hi) x;simp only [List.set_cons_succ,List.sum_cons,this];simp [List.getD];omega
theorem ziy {g:List Int} {c:Cl} (h:c.p.toNat < g.length):(z8k g c).sum=g.sum+1:=by
 rw [z8k,zjA h];omega
theorem zbE {t:Int} {u:List Int} {g:List Int} (hg:g.length=u.length):∀ k,k<=(z04 t u).length->(z1s g (z04 t u) k).sum=g.sum+k
 | 0,_=>by rw [z5Y];omega
 | k+1,hk=>by
  have hlt:k < (z04 t u).length:=(by omega);obtain ⟨i,hi,he⟩:=z6s (List.getElem_mem hlt);rw [z55 hlt,ziy (by rw [he,z42,z4V,hg];simpa using hi),zbE hg k (by omega)];omega
theorem zbF {t:Int} {u:List Int} {g:List Int} (hg:g.length=u.length) {i:Nat} (hi:i < u.length):∀ k,k<=(z04 t u).length->(z1s g (z04 t u) k).getD i 0=g.getD i 0+if cl t u i ∈ (z04 t u).take k then 1 else 0
 | 0,_=>by rw [z5Y];simp
 | k+1,hk=>by
  have hlt:k < (z04 t u).length:=(by omega);obtain ⟨j,hj,he⟩:=z6s (List.getElem_mem hlt);rw [z55 hlt,zcW _ _ _ (by rw [z4V,hg];exact hi),zbF hg hi k (by omega),he,z42,List.take_add_one,List.getElem?_eq_getElem hlt,he]
  have hno:cl t u j ∉ (z04 t u).take k:=λhm=>by
   obtain ⟨q,hq,hqe⟩:=List.getElem_of_mem hm;rw [List.length_take] at hq;rw [List.getElem_take] at hqe;exact List.pairwise_iff_getElem.1 (zbD t u) q k (by omega) hlt (by omega) (by rw [hqe,he])
  by_cases e:j=i
  ·subst e;simp [hno]
  ·have e2:cl t u i ≠ cl t u j:=λh=>e (by have:=congrArg Cl.p h;rw [z42,z42] at this;omega);simp [e,e2]
theorem z6G {t:Int} {l:List Int} (h1:zI t l=true) {i:Nat} (hi:i < l.length) :
  (zy t l).getD i 0=t * (wts l).getD i 0 / (wts l).sum+if cl t (wts l) i ∈ (z04 t (wts l)).take (z2D t (wts l)) then 1 else 0:=by
 have h0:0 < l.length:=(by omega);have hw:=(z0d h1).2;have hp:=z5q hw.2 h0;have hl:=z6e (z4U h1) hp;have hu:i < (wts l).length:=(by rw [z3G];exact hi);rw [z2I h1 (List.length_pos_iff.1 h0),zbF (z0A _ _) hu _ (by rw [z5s];omega),z4T hu]
theorem z3m {t:Int} {l:List Int} (h1:zI t l=true) (h0:0 < l.length):(zy t l).sum=t:=by
 have hw:=(z0d h1).2;have hp:=z5q hw.2 h0;have hk:=z4U h1;have hl:=z6e hk hp;rw [z2I h1 (List.length_pos_iff.1 h0),zbE (z0A _ _) _ (by rw [z5s];omega)];have:=z5r hk hp (wts l).length lR;rw [<-z0A t (wts l),z1t,z0A] at this;omega
theorem zbG {t:Int} {u:List Int} {i k j:Nat} (hi:i < u.length) (h:tB (cl t u i) (cl t u k)=true) (hk:cl t u k ∈ (z04 t u).take j):cl t u i ∈ (z04 t u).take j:=by
 have hm:=zeB (t:=t) hi;rw [<-List.take_append_drop j (z04 t u),List.mem_append] at hm
 rcases hm with hm | hm
 ·exact hm
 ·exfalso
  obtain ⟨q,hq,hqe⟩:=List.getElem_of_mem hk;obtain ⟨p,hp,hpe⟩:=List.getElem_of_mem hm;rw [List.length_take] at hq;rw [List.getElem_take] at hqe;rw [List.length_drop] at hp;rw [List.getElem_drop] at hpe;have:=List.pairwise_iff_getElem.1 (z7z t u) q (j+p) (by omega) (by omega) (by omega);rw [hqe,hpe,h] at this
  cases this
theorem zgM {t:Int} {u:List Int}:((z04 t u).map (·.o)).sum=(z3J t u).sum:=by
 rw [z04,z3J];exact zix ((List.mergeSort_perm (clL t u) _).map _)
theorem zeC {t:Int} {u:List Int} (h:zI t u=true) (hs:0 < u.sum):∀ k,k<=u.length->zK (z3J t u) k=t * zK u k - u.sum * z19 t u k
 | 0,_=>by simp [zK,z19]
 | k+1,hk=>by
  have hlt:k < u.length:=(by omega);have m1:=Int.mul_ediv_add_emod (t * u.getD k 0) u.sum;rw [z1w (by rw [z41];exact hlt),zeC h hs k (by omega),z7y hlt,z1w hlt,z19,z6c h (z6d hlt) (by omega),Int.toNat_natCast,Int.mul_add,Int.mul_add];omega
theorem zbH {L:List Int} {B:Int} (h:∀ x ∈ L,x<=B):L.sum<=L.length * B:=by
 induction L with
 | nil=>simp
 | cons y r ih =>
  have h1:=ih (λx hx=>h x (List.mem_cons_of_mem _ hx));have h2:=h y List.mem_cons_self;rw [List.sum_cons,List.length_cons,Int.natCast_add,Int.add_mul];simp only [Int.natCast_one,Int.one_mul];omega
theorem zgN {t:Int} {u:List Int} (hs:0 < u.sum) (i:Nat):0<=(cl t u i).o/\(cl t u i).o < u.sum:=⟨Int.emod_nonneg _ (by omega),Int.emod_lt_of_pos _ hs⟩
theorem zcY {t:Int} {u:List Int} (h:zI t u=true) (hs:0 < u.sum) {i:Nat} (ho:(cl t u i).o=0):cl t u i ∉ (z04 t u).take (z2D t u):=by
 intro hm;obtain ⟨q,hq,hqe⟩:=List.getElem_of_mem hm;rw [List.length_take] at hq;rw [List.getElem_take] at hqe;have hlf:=z6e h hs;have hall:(z04 t u).map (·.o)=((z04 t u).take q).map (·.o) ++ ((z04 t u).drop q).map (·.o):=(by rw [<-List.map_append,List.take_append_drop])
 have hsum:((z04 t u).map (·.o)).sum=u.sum * z2D t u:=by
  rw [zgM];have:=zeC h hs u.length lR;rw [<-z41 t u,z1t,z41,z1t] at this;rw [this,hlf.1,Int.mul_sub,Int.mul_comm t]
 have h1:(((z04 t u).take q).map (·.o)).sum<=(((z04 t u).take q).map (·.o)).length * (u.sum - 1):=zbH (λx hx=>by
  obtain ⟨c,hc,rfl⟩:=List.mem_map.1 hx;obtain ⟨j,_,rfl⟩:=z6s (List.mem_of_mem_take hc);have:=(zgN (t:=t) hs j).2
  omega)
 have h2:(((z04 t u).drop q).map (·.o)).sum<=(((z04 t u).drop q).map (·.o)).length * 0:=zbH (λx hx=>by
  obtain ⟨c,hc,rfl⟩:=List.mem_map.1 hx;obtain ⟨p,hp,hpe⟩:=List.getElem_of_mem hc;rw [List.length_drop] at hp;rw [List.getElem_drop] at hpe
  have hle:tB (z04 t u)[q+p] (z04 t u)[q]=false:=by
   rcases Nat.eq_zero_or_pos p with rfl | hpp
   ·exact z4t.irrefl _
   ·exact List.pairwise_iff_getElem.1 (z7z t u) q (q+p) (by omega) (by omega) (by omega)
  rw [hqe,hpe,z8j] at hle
  omega)
 rw [hall,List.sum_append] at hsum;simp only [List.length_map,List.length_take] at h1;rw [Nat.min_eq_left (by omega)] at h1
 have h3:(q:Int) * (u.sum - 1) < u.sum * z2D t u:=by
  have e1:(q:Int) * (u.sum - 1)<=(q:Int) * u.sum:=Int.mul_le_mul_of_nonneg_left (by omega) (by omega);have e2:(q:Int) * u.sum < (z2D t u:Int) * u.sum:=Int.mul_lt_mul_of_pos_right (by omega) hs;rw [Int.mul_comm u.sum];omega
 omega
theorem z5Z {t:Int} {l:List Int} (h1:zI t l=true) (hs:l.sum ≠ 0) {i:Nat} (hi:i < l.length) (hz:l.getD i 0=0):(zy t l).getD i 0=0:=by
 have hu:wts l=l:=(by rw [wts,if_neg hs]);have hp:=z5q (z0d h1).2.2 (show 0 < l.length by omega);rw [hu] at hp;have:=zcY (t:=t) h1 hp (i:=i) (by show t * l.getD i 0 % l.sum=0;rw [hz];simp);rw [z6G h1 hi,hu,if_neg this,hz];simp
theorem zgO {t:Int} {l:List Int} (h1:zI t l=true) (hs:l.sum ≠ 0) {i:Nat} (hi:i < l.length):(zy t l).getD i 0=z7v t l i\/(zy t l).getD i 0=z7v t l i+1:=by
 have hu:wts l=l:=(by rw [wts,if_neg hs]);rw [z6G h1 hi,hu,z6c h1 (z6d hi) hs,Int.toNat_natCast]
 split <;> omega
theorem zfg {t:Int} {l:List Int} (h1:zI t l=true) (hs:t < l.sum) {i:Nat} (hi:i < l.length):0<=(zy t l).getD i 0/\(zy t l).getD i 0<=l.getD i 0:=by
 obtain ⟨ht,_,hw⟩:=z0d h1;have hwi:=z2P hw hi;have hsm:=z1G (t:=t) (l:=l) i (by rw [z1B h1];exact hi);refine ⟨hsm.1,?_⟩;by_cases hz:l.getD i 0=0
 ·rw [z5Z h1 (by omega) hi hz];omega
 ·have hlt:t * l.getD i 0 / l.sum < l.getD i 0:=by
   apply Int.ediv_lt_of_lt_mul (by omega);rw [Int.mul_comm (l.getD i 0)];exact Int.mul_lt_mul_of_pos_right hs (by omega)
  rcases zgO h1 (show l.sum ≠ 0 by omega) hi with h | h
  ·rw [h,z6c h1 (z6d hi) (by omega),Int.toNat_natCast];omega
  ·rw [h,z6c h1 (z6d hi) (by omega),Int.toNat_natCast];omega
end
section
open Go.RowKit
def z07 (l:List Int) (c m:Nat):List Int:=(l.drop c).take m
theorem z1S {l:List Int} {c m:Nat} (h:c+m<=l.length):(z07 l c m).length=m:=by unfold z07;rw [List.length_take,List.length_drop];omega
theorem z7A {l:List Int} {c m k:Nat} (_:c+m<=l.length) (hk:k < m):(z07 l c m).getD k 0=l.getD (c+k) 0:=by
 unfold z07;simp [List.getD,List.getElem?_take_of_lt hk,List.getElem?_drop]
theorem z6t {l:List Int} {c m:Nat} {x:Int} (h:x ∈ z07 l c m):x ∈ l:=List.mem_of_mem_drop (List.mem_of_mem_take h)
def z2E (l:List Int) (c:Nat) (z0r:List Int):Nat->List Int
 | 0=>l
 | k+1=>(z2E l c z0r k).set (c+k) (l.getD (c+k) 0+z0r.getD k 0)
theorem z3n (l:List Int) (c:Nat) (z0r:List Int):∀ k,(z2E l c z0r k).length=l.length
 | 0=>rfl
 | k+1=>by rw [z2E,List.length_set,z3n l c z0r k]
theorem z6H (l:List Int) (c:Nat) (z0r:List Int) {i:Nat}:∀ k,(∀ j,j < k->c+j ≠ i)->(z2E l c z0r k).getD i 0=l.getD i 0
 | 0,_=>rfl
 | k+1,h=>by
  rw [z2E];simp only [List.getD,List.getElem?_set_ne (h k (by omega))];exact z6H l c z0r k (λj hj=>h j (by omega))
theorem zcZ (l:List Int) (c:Nat) (z0r:List Int) {j:Nat}:∀ k,j < k->c+k<=l.length->(z2E l c z0r k).getD (c+j) 0=l.getD (c+j) 0+z0r.getD j 0
 | k+1,h,hl=>by
  rw [z2E];by_cases e:j=k
  ·subst e;have:c+j < (z2E l c z0r j).length:=(by rw [z3n];omega);simp [List.getD,this]
  ·have:=zcZ l c z0r (j:=j) k (by omega) (by omega);simp only [List.getD,List.getElem?_set_ne (show c+k ≠ c+j by omega)];exact this
def z1i (l:List Int) (c m:Nat) (gap need:Int):Int:=need - ((z07 l c m).sum+gap * ((m:Int) - 1))
def z3a (l:List Int) (c m:Nat) (gap need:Int):List Int:=if z1i l c m gap need<=0 then l else z2E l c (zy (z1i l c m gap need) (z07 l c m)) m
theorem zbI (l:List Int) (c m:Nat) (gap need:Int):(z3a l c m gap need).length=l.length:=by unfold z3a;split;rfl;exact z3n _ _ _ _
def UpB (l:List Int) (B:Int):Prop:=∀ i,i < l.length->0<=l.getD i 0/\l.getD i 0<=B
theorem UpB.mem {l:List Int} {B:Int} (h:UpB l B) {x:Int} (hx:x ∈ l):0<=x/\x<=B:=by
 obtain ⟨i,hi,rfl⟩:=List.mem_iff_getElem.1 hx;have:=h i hi
 simpa [List.getD,hi] using this
theorem z5t:∀ {l:List Int} {B:Int},(∀ x ∈ l,0<=x/\x<=B)->0<=l.sum/\l.sum<=l.length * B
 | [],_,_=>by simp
 | a :: l,B,h=>by
  have h1:=h a (by simp);have h2:=z5t (l:=l) (B:=B) (λx hx=>h x (by simp [hx]));rw [List.sum_cons,List.length_cons,show ((l.length+1:Nat):Int) * B=l.length * B+B by rw [show ((l.length+1:Nat):Int)=(l.length:Int)+1 by omega,Int.add_mul,Int.one_mul]];omega
theorem za7:∀ {l:List Int} {x:Int},(∀ y ∈ l,0<=y)->x ∈ l->x<=l.sum
 | a :: l,x,h,hx=>by
  have h1:=h a (by simp);rw [List.sum_cons]
  rcases List.mem_cons.1 hx with rfl | hx
  ·have:0<=l.sum:=by
    clear hx h1
    induction l with
    | nil=>simp
    | cons b l ih =>
     have hb:=h b (by simp);have:=ih (λy hy=>h y (by rcases List.mem_cons.1 hy with rfl | hy;exact List.mem_cons_self;exact List.mem_cons_of_mem _ (List.mem_cons_of_mem _ hy)));rw [List.sum_cons];omega
   omega
  ·have:=za7 (λy hy=>h y (List.mem_cons_of_mem _ hy)) hx;omega
theorem zaR {l:List Int} {c m:Nat} {gap need:Int} (hb:UpB l 50000) (hc:c+m<=l.length) (hm:1<=m/\m<=4) (hg:0<=gap/\gap<=3) (hn:need<=30) (hl:0 < z1i l c m gap need) :
  zI (z1i l c m gap need) (z07 l c m)=true/\z1i l c m gap need<=30:=by
 have hs:=(z5t (λx (hx:x ∈ z07 l c m)=>hb.mem (z6t hx))).1;have hgm:0<=gap * ((m:Int) - 1):=Int.mul_nonneg hg.1 (by omega);have h30:z1i l c m gap need<=30:=(by unfold z1i;omega);refine ⟨?_,h30⟩;simp only [zI,wtB,Bool.and_eq_true,decide_eq_true_eq,List.all_eq_true];refine ⟨⟨by omega,by rw [z1S hc];omega⟩,λx hx=>?_⟩;have:=hb.mem (z6t hx);omega
theorem zgP {l:List Int} {B:Int} {c m:Nat} {gap need:Int} (hb:UpB l B) (hB:B+30<=50000) (hc:c+m<=l.length) (hm:1<=m/\m<=4) (hg:0<=gap/\gap<=3) (hn:need<=30):UpB (z3a l c m gap need) (B+30):=by
 intro i hi;rw [zbI] at hi;have hbi:=hb i hi;unfold z3a
 split
 ·omega
 ·rename_i hl
  obtain ⟨hok,h30⟩:=zaR (λj hj=>⟨(hb j hj).1,by have:=(hb j hj).2;omega⟩) hc hm hg hn (by omega:0 < z1i l c m gap need);have hsl:=z1B hok;rw [z1S hc] at hsl;by_cases hin:c<=i/\i < c+m
  ·obtain ⟨j,rfl⟩:∃ j,i=c+j:=⟨i - c,by omega⟩;rw [zcZ l c _ m (by omega) (by omega)];have h1:=z1G (t:=z1i l c m gap need) (l:=z07 l c m) j (by omega)
   have h2:(zy (z1i l c m gap need) (z07 l c m)).getD j 0<=30:=by
    have hsum:=z3m hok (by rw [z1S hc];omega)
    have hall:∀ x ∈ zy (z1i l c m gap need) (z07 l c m),0<=x:=λx hx=>by
     obtain ⟨k,hk,rfl⟩:=List.mem_iff_getElem.1 hx;have:=(z1G (t:=z1i l c m gap need) (l:=z07 l c m) k hk).1
     simpa [List.getD,hk] using this
    have hle:(zy (z1i l c m gap need) (z07 l c m)).getD j 0<=(zy (z1i l c m gap need) (z07 l c m)).sum:=by
     have hmem:(zy (z1i l c m gap need) (z07 l c m)).getD j 0 ∈ zy (z1i l c m gap need) (z07 l c m):=by
      have e:(zy (z1i l c m gap need) (z07 l c m)).getD j 0=(zy (z1i l c m gap need) (z07 l c m))[j]'(by omega):=(by simp [List.getD,show j < (zy (z1i l c m gap need) (z07 l c m)).length by omega]);rw [e];exact List.getElem_mem _
     exact za7 hall hmem
    omega
   omega
  ·rw [z6H l c _ m (λj hj e=>hin ⟨by omega,by omega⟩)];omega
def zn (P:Nat->Bool) (n:Nat):List Nat:=(List.range n).filter P
def z0k (l:List Int) (P:Nat->Bool) (n:Nat):List Int:=(zn P n).map (λi=>l.getD i 0)
theorem z2i (l:List Int) (P:Nat->Bool) (n:Nat):(z0k l P n).length=(zn P n).length:=by simp [z0k]
theorem z8t (P:Nat->Bool) (n:Nat):zn P (n+1)=zn P n ++ if P n=true then [n] else []:=by
 unfold zn;rw [List.range_succ,List.filter_append]
 congr 1
 by_cases h:P n=true
 ·simp [h]
 ·simp [h]
theorem z3w {P:Nat->Bool} {n p:Nat} (h:p < (zn P n).length):(zn P n)[p] < n/\P (zn P n)[p]=true:=by
 have:=List.getElem_mem h;unfold zn at this;rw [List.mem_filter,List.mem_range] at this;exact this
theorem z3p {P:Nat->Bool} {n p q:Nat} (hp:p < (zn P n).length) (hq:q < (zn P n).length) (h:p < q):(zn P n)[p] < (zn P n)[q] :=
 List.pairwise_iff_getElem.1 (List.Pairwise.filter P List.pairwise_lt_range) p q hp hq h
theorem z45 {l:List Int} {P:Nat->Bool} {n p:Nat} (h:p < (zn P n).length):(z0k l P n).getD p 0=l.getD (zn P n)[p] 0:=by
 simp [z0k,List.getD,h]
theorem z5w {l:List Int} {P:Nat->Bool}:∀ n,n<=l.length->(∀ i,i < n->P i=false->l.getD i 0=0)->(z0k l P n).sum=zK l n
 | 0,_,_=>by simp [z0k,zn,zK]
 | n+1,hn,hz=>by
  have ih:=z5w n (by omega) (λi hi=>hz i (by omega))
  have e:z0k l P (n+1)=z0k l P n ++ if P n=true then [l.getD n 0] else []:=by
   unfold z0k;rw [z8t,List.map_append]
   congr 1
   split <;> rfl
  rw [e,List.sum_append,ih,z1w (by omega)]
  cases hP:P n with
  | true=>simp
  | false=>rw [hz n (by omega) hP];simp
theorem zdf:∀ {a b:List Int},a.length=b.length->(∀ i,i < a.length->a.getD i 0<=b.getD i 0)->∀ p,p < a.length->a.getD p 0 < b.getD p 0->a.sum < b.sum
 | [],_,_,_,p,hp,_=>absurd hp (Nat.not_lt_zero _)
 | _ :: _,[],h,_,_,_,_=>absurd h (by simp)
 | x :: a,y :: b,h,hle,p,hp,hlt=>by
  have hab:a.length=b.length:=(by simpa using h);have h0:x<=y:=(by have:=hle 0 (by simp);simpa using this);have hr:∀ i,i < a.length->a.getD i 0<=b.getD i 0:=λi hi=>by have:=hle (i+1) (by simpa using hi);simpa using this
  rw [List.sum_cons,List.sum_cons]
  cases p with
  | zero =>
   have h1:x < y:=(by simpa using hlt)
   have h2:a.sum<=b.sum:=by
    clear hlt hp hle h h0 h1
    induction a generalizing b with
    | nil=>cases b with
     | nil=>exact Int.le_refl _
     | cons _ _=>simp at hab
    | cons u a ih=>cases b with
     | nil=>simp at hab
     | cons v b =>
      have h3:u<=v:=(by have:=hr 0 (by simp);simpa using this);have:=ih (b:=b) (by simpa using hab) (λi hi=>by have:=hr (i+1) (by simpa using hi);simpa using this);rw [List.sum_cons,List.sum_cons];omega
   omega
  | succ p =>
   have:=zdf hab hr p (by simpa using hp) (by simpa using hlt);omega
theorem zbQ {a b:List Int} (hl:a.length=b.length) (hs:a.sum=b.sum) {p:Nat} (hp:p < a.length) (h:a.getD p 0 < b.getD p 0):∃ q,q < a.length/\b.getD q 0 < a.getD q 0:=by
 apply Classical.byContradiction;intro hn;have:=zdf hl (λi hi=>Int.not_lt.1 (λhlt=>hn ⟨i,hi,hlt⟩)) p hp h;omega
theorem zdg {l:List Int} (h:l.sum ≠ 0):wts l=l:=by unfold wts;rw [if_neg h]
theorem zbR {t:Int} {l:List Int} {P:Nat->Bool} (hok:zI t l=true) (hz:∀ i,i < l.length->P i=false->l.getD i 0=0) (hs:l.sum ≠ 0) :
  zI t (z0k l P l.length)=true/\zy t (z0k l P l.length)=z0k (zy t l) P l.length:=by
 obtain ⟨ht,hlen,hw⟩:=z0d hok;have hsum:(z0k l P l.length).sum=l.sum:=(by rw [z5w l.length lR hz,z1t]);have hs':(z0k l P l.length).sum ≠ 0:=(by rw [hsum];exact hs);have hnl:(zn P l.length).length<=l.length:=(by unfold zn;have:=List.length_filter_le P (List.range l.length);simpa using this)
 have hok':zI t (z0k l P l.length)=true:=by
  simp only [zI,Bool.and_eq_true,decide_eq_true_eq,List.all_eq_true];refine ⟨⟨by simp only [wtB,decide_eq_true_eq];exact ht,by rw [z2i];omega⟩,λx hx=>?_⟩;unfold z0k at hx;obtain ⟨i,hi,rfl⟩:=List.mem_map.1 hx;unfold zn at hi;have hil:=List.mem_range.1 (List.mem_filter.1 hi).1;rw [show l.getD i 0=l[i] by simp [List.getD,hil]];exact List.all_eq_true.1 hw _ (List.getElem_mem hil)
 refine ⟨hok',?_⟩
 have hpos:0 < l.length:=by
  cases l with
  | nil=>simp at hs
  | cons _ _=>simp
 have hpos':0 < (z0k l P l.length).length:=by
  cases h:z0k l P l.length with
  | nil=>rw [h] at hs';simp at hs'
  | cons _ _=>simp
 have hL:=z1B hok;have hL':=z1B hok'
 have hsh:(z0k (zy t l) P l.length).sum=(zy t l).sum:=by
  have:=z5w (l:=zy t l) (P:=P) l.length (by omega) (λi hi hP=>z5Z hok hs hi (hz i hi hP));rw [this,<-hL,z1t]
 have hss:(zy t (z0k l P l.length)).sum=(z0k (zy t l) P l.length).sum:=(by rw [hsh,z3m hok hpos,z3m hok' hpos']);have hll:(zy t (z0k l P l.length)).length=(z0k (zy t l) P l.length).length:=(by rw [hL',z2i,z2i]);have hw1:=zdg hs;have hw2:=zdg hs'
 -- the two orders are one
 have hord:∀ p q,(hp:p < (zn P l.length).length)->(hq:q < (zn P l.length).length)->tB (cl t (z0k l P l.length) p) (cl t (z0k l P l.length) q)=tB (cl t l (zn P l.length)[p]) (cl t l (zn P l.length)[q]):=by
  intro p q hp hq;rw [Bool.eq_iff_iff,z6q,z6q];simp only [cl,hsum,z45 hp,z45 hq]
  have hm:((p:Int) < (q:Int)) ↔ (((zn P l.length)[p]:Nat):Int) < (((zn P l.length)[q]:Nat):Int):=by
   constructor
   ·intro h;have:=z3p hp hq (by omega);omega
   ·intro h
    rcases Nat.lt_trichotomy p q with h1 | h1 | h1
    ·omega
    ·subst h1;omega
    ·have:=z3p hq hp h1;omega
  have he:((p:Int)=(q:Int)) ↔ (((zn P l.length)[p]:Nat):Int)=(((zn P l.length)[q]:Nat):Int):=by
   constructor
   ·intro h;have:p=q:=by omega
    subst this;rfl
   ·intro h
    rcases Nat.lt_trichotomy p q with h1 | h1 | h1
    ·have:=z3p hp hq h1;omega
    ·omega
    ·have:=z3p hq hp h1;omega
  rw [hm,he]
 have hA:∀ p,(hp:p < (zn P l.length).length)->(zy t (z0k l P l.length)).getD p 0=t * l.getD (zn P l.length)[p] 0 / l.sum+if cl t (z0k l P l.length) p ∈ (z04 t (z0k l P l.length)).take (z2D t (z0k l P l.length)) then 1 else 0:=by
  intro p hp;rw [z6G hok' (by rw [z2i];exact hp),hw2,hsum,z45 hp]
 have hB:∀ p,(hp:p < (zn P l.length).length)->(z0k (zy t l) P l.length).getD p 0=t * l.getD (zn P l.length)[p] 0 / l.sum+if cl t l (zn P l.length)[p] ∈ (z04 t l).take (z2D t l) then 1 else 0:=by
  intro p hp;rw [z45 hp,z6G hok (z3w hp).1,hw1]
 -- one that got z0r here and one that got z0r there cannot both be
 have hno:∀ p q,(hp:p < (zn P l.length).length)->(hq:q < (zn P l.length).length)->(zy t (z0k l P l.length)).getD p 0 < (z0k (zy t l) P l.length).getD p 0->(z0k (zy t l) P l.length).getD q 0 < (zy t (z0k l P l.length)).getD q 0->False:=by
  intro p q hp hq h1 h2;rw [hA p hp,hB p hp] at h1;rw [hA q hq,hB q hq] at h2;have hpl:p < (z0k l P l.length).length:=(by rw [z2i];exact hp);have hql:q < (z0k l P l.length).length:=(by rw [z2i];exact hq);by_cases a1:cl t (z0k l P l.length) p ∈ (z04 t (z0k l P l.length)).take (z2D t (z0k l P l.length))
  ·rw [if_pos a1] at h1;split at h1 <;> omega
  by_cases a2:cl t l (zn P l.length)[q] ∈ (z04 t l).take (z2D t l)
  ·rw [if_pos a2] at h2;split at h2 <;> omega
  by_cases b1:cl t l (zn P l.length)[p] ∈ (z04 t l).take (z2D t l)
  case neg=>rw [if_neg a1,if_neg b1] at h1;omega
  by_cases b2:cl t (z0k l P l.length) q ∈ (z04 t (z0k l P l.length)).take (z2D t (z0k l P l.length))
  case neg=>rw [if_neg a2,if_neg b2] at h2;omega
  have hpq:p ≠ q:=λe=>by subst e;exact a1 b2
  have htot:tB (cl t l (zn P l.length)[p]) (cl t l (zn P l.length)[q])=true\/tB (cl t l (zn P l.length)[q]) (cl t l (zn P l.length)[p])=true:=by
   rw [z6q,z6q];simp only [cl]
   have:(zn P l.length)[p] ≠ (zn P l.length)[q]:=by
    rcases Nat.lt_or_gt_of_ne hpq with h | h
    ·have:=z3p hp hq h;omega
    ·have:=z3p hq hp h;omega
   omega
  rcases htot with h | h
  ·rw [<-hord p q hp hq] at h;exact a1 (zbG hpl h b2)
  ·exact a2 (zbG (z3w hq).1 h b1)
 apply List.ext_getElem hll;intro p h1 h2;have hp:p < (zn P l.length).length:=(by rw [hL',z2i] at h1;exact h1);have e1:(zy t (z0k l P l.length))[p]=(zy t (z0k l P l.length)).getD p 0:=(by simp [List.getD,h1]);have e2:(z0k (zy t l) P l.length)[p]=(z0k (zy t l) P l.length).getD p 0:=(by simp [List.getD,h2]);rw [e1,e2];apply Classical.byContradiction;intro hne
 rcases Int.lt_or_gt_of_ne hne with h | h
 ·obtain ⟨q,hq,hlt⟩:=zbQ hll hss h1 h;exact hno p q hp (by rw [hL',z2i] at hq;exact hq) h hlt
 ·obtain ⟨q,hq,hlt⟩:=zbQ hll.symm hss.symm h2 h;have hq':q < (zn P l.length).length:=(by rw [z2i] at hq;exact hq);exact hno q p hq' hp hlt h
def z0F (t:Int) (l:List Int):List Int:=if zI t l=true then (if l.sum<=t then l else zy t l) else []
def z2l (t:Int) (l:List Int):Int:=if zI t l=true then (if l.sum<=t then t - l.sum else 0) else 0
theorem z46 {t:Int} {l:List Int} (h:zI t l=true) (hs:l.sum<=t):z0F t l=l/\z2l t l=t - l.sum:=by simp [z0F,z2l,h,hs]
theorem z37 {t:Int} {l:List Int} (h:zI t l=true) (hs:¬ l.sum<=t):z0F t l=zy t l/\z2l t l=0:=by simp [z0F,z2l,h,hs]
theorem z8u {x:Value} {a b:Int} (h:a=b):Ending.returned (.tuple #[x,int i64 a])=.returned (.tuple #[x,int i64 b]):=by rw [h]
theorem zh2 {t:Int} {l:List Int} {P:Nat->Bool} (hok:zI t l=true):zI t (z0k l P l.length)=true:=by
 obtain ⟨ht,hlen,hw⟩:=z0d hok;have hnl:(zn P l.length).length<=l.length:=(by unfold zn;have:=List.length_filter_le P (List.range l.length);simpa using this);simp only [zI,Bool.and_eq_true,decide_eq_true_eq,List.all_eq_true];refine ⟨⟨by simp only [wtB,decide_eq_true_eq];exact ht,by rw [z2i];omega⟩,λx hx=>?_⟩;unfold z0k at hx;obtain ⟨i,hi,rfl⟩:=List.mem_map.1 hx;unfold zn at hi;have hil:=List.mem_range.1 (List.mem_filter.1 hi).1;rw [show l.getD i 0=l[i] by simp [List.getD,hil]];exact List.all_eq_true.1 hw _ (List.getElem_mem hil)
theorem ziD {t:Int} {l:List Int} {P:Nat->Bool} (hok:zI t l=true) (hz:∀ i,i < l.length->P i=false->l.getD i 0=0) :
  z0F t (z0k l P l.length)=z0k (z0F t l) P l.length/\z2l t (z0k l P l.length)=z2l t l:=by
 have hsum:(z0k l P l.length).sum=l.sum:=(by rw [z5w l.length lR hz,z1t]);have hok':=zh2 (P:=P) hok;by_cases hs:l.sum<=t
 ·rw [(z46 hok hs).1,(z46 hok hs).2,(z46 hok' (by rw [hsum];exact hs)).1,(z46 hok' (by rw [hsum];exact hs)).2,hsum];exact ⟨rfl,rfl⟩
 ·have ht:=(z0d hok).1.1;rw [(z37 hok hs).1,(z37 hok hs).2,(z37 hok' (by rw [hsum];exact hs)).1,(z37 hok' (by rw [hsum];exact hs)).2];exact ⟨(zbR hok hz (by omega)).2,rfl⟩
def z0G (P:Nat->Bool) (n:Nat):List Int:=(List.range n).map (λi=>if P i=true then 1 else 0)
theorem z14 (P:Nat->Bool) (n:Nat):(z0G P n).length=n:=by simp [z0G]
theorem z5x {P:Nat->Bool} {n i:Nat} (h:i < n):(z0G P n).getD i 0=if P i=true then 1 else 0:=by simp [z0G,List.getD,h]
theorem z3j {t:Int} (P:Nat->Bool) {n:Nat} (ht:0<=t/\t<=100000) (hn:n<=100):zI t (z0G P n)=true:=by
 simp only [zI,Bool.and_eq_true,decide_eq_true_eq,List.all_eq_true];refine ⟨⟨by simp only [wtB,decide_eq_true_eq];exact ht,by rw [z14];exact hn⟩,λx hx=>?_⟩;unfold z0G at hx;obtain ⟨i,_,rfl⟩:=List.mem_map.1 hx;simp only [wtB,decide_eq_true_eq]
 split <;> omega
theorem zb0 (P:Nat->Bool) (n:Nat):z0k (z0G P n) P n=List.replicate (zn P n).length 1:=by
 apply List.ext_getElem (by simp [z0k]);intro p h1 h2;have hp:p < (zn P n).length:=(by simpa [z0k] using h1);have hg:=z3w hp;have e:(z0k (z0G P n) P n)[p]=(z0k (z0G P n) P n).getD p 0:=(by simp [List.getD,h1]);rw [e,z45 hp,z5x hg.1,if_pos hg.2];simp
theorem ziE (m:Nat):wts (List.replicate m (0:Int))=List.replicate m 1:=by
 unfold wts
 rw [if_pos (by induction m with
  | zero=>rfl
  | succ m ih=>rw [List.replicate_succ,List.sum_cons,ih];rfl)]
 simp
theorem zjI (m:Nat):wts (List.replicate m (1:Int))=List.replicate m 1:=by
 unfold wts
 split
 ·simp
 ·rfl
theorem zab {t:Int} (P:Nat->Bool) {n:Nat} (ht:0<=t/\t<=100000) (hn:n<=100) (h0:0 < (zn P n).length) :
  zy t (List.replicate (zn P n).length 0)=z0k (zy t (z0G P n)) P n:=by
 have hok:=z3j P (n:=n) ht hn
 have hz:∀ i,i < (z0G P n).length->P i=false->(z0G P n).getD i 0=0:=λi hi hP=>by
  rw [z14] at hi;rw [z5x hi,if_neg (by rw [hP];simp)]
 have hnl:(zn P n).length<=n:=(by unfold zn;have:=List.length_filter_le P (List.range n);simpa using this)
 have hsum:(z0G P n).sum=((zn P n).length:Int):=by
  have:=z5w (l:=z0G P n) (P:=P) (z0G P n).length lR hz;rw [z1t,z14,zb0,z6p] at this;exact this.symm
 have h1:=(zbR hok hz (by rw [hsum];omega)).2;rw [z14,zb0] at h1;rw [<-h1]
 have hok0:zI t (List.replicate (zn P n).length 0)=true:=by
  simp only [zI,Bool.and_eq_true,decide_eq_true_eq,List.all_eq_true];exact ⟨⟨by simp only [wtB,decide_eq_true_eq];exact ht,by simp;omega⟩,λx hx=>by rw [List.eq_of_mem_replicate hx];rfl⟩
 have hok1:zI t (List.replicate (zn P n).length 1)=true:=by
  simp only [zI,Bool.and_eq_true,decide_eq_true_eq,List.all_eq_true];exact ⟨⟨by simp only [wtB,decide_eq_true_eq];exact ht,by simp;omega⟩,λx hx=>by rw [List.eq_of_mem_replicate hx];rfl⟩
 rw [z2I hok0 (by rw [<-List.length_pos_iff];simpa using h0),z2I hok1 (by rw [<-List.length_pos_iff];simpa using h0),ziE,zjI]
def z1o (a b:List Int):List Int:=List.zipWith (·+·) a b
def z0U (l:List Int) (js:List Nat) (g:List Int):Nat->List Int
 | 0=>l
 | k+1=>(z0U l js g k).set (js.getD k 0) ((z0U l js g k).getD (js.getD k 0) 0+g.getD k 0)
theorem z59 (l:List Int) (js:List Nat) (g:List Int):∀ k,(z0U l js g k).length=l.length
 | 0=>rfl
 | k+1=>by rw [z0U,List.length_set];exact z59 l js g k
theorem z7F (l:List Int) (js:List Nat) (g:List Int) {i:Nat}:∀ k,(∀ p,p < k->js.getD p 0 ≠ i)->(z0U l js g k).getD i 0=l.getD i 0
 | 0,_=>rfl
 | k+1,h=>by
  rw [z0U];simp only [List.getD,List.getElem?_set_ne (show js[k]?.getD 0 ≠ i from h k (by omega))];exact z7F l js g k (λp hp=>h p (by omega))
theorem zbS {l:List Int} {P:Nat->Bool} {n:Nat} (hn:n<=l.length) (g:List Int) {p:Nat}:∀ k,k<=(zn P n).length->p < k->(z0U l (zn P n) g k).getD ((zn P n).getD p 0) 0=l.getD ((zn P n).getD p 0) 0+g.getD p 0
 | k+1,hk,hp=>by
  have hkl:k < (zn P n).length:=(by omega);have ek:(zn P n).getD k 0=(zn P n)[k]:=(by simp [List.getD,hkl]);have hpl:p < (zn P n).length:=(by omega);have ep:(zn P n).getD p 0=(zn P n)[p]:=(by simp [List.getD,hpl]);rw [z0U];by_cases e:p=k
  ·subst e;have hlt:(zn P n).getD p 0 < (z0U l (zn P n) g p).length:=(by rw [z59,ep];have:=(z3w hpl).1;omega)
   have ho:=z7F l (zn P n) g (i:=(zn P n).getD p 0) p (λq hq=>by
    have hql:q < (zn P n).length:=(by omega);have:=z3p hql hpl hq;rw [ep,show (zn P n).getD q 0=(zn P n)[q] by simp [List.getD,hql]]
    omega)
   rw [ho];generalize (zn P n).getD p 0=j at hlt;simp only [List.getD,List.getElem?_set_self hlt,Option.getD_some]
  ·have hne:(zn P n).getD k 0 ≠ (zn P n).getD p 0:=by
    have:=z3p hpl hkl (by omega);rw [ek,ep];omega
   have ih:=zbS (P:=P) hn g (p:=p) k (by omega) (by omega);rw [<-ih];generalize (zn P n).getD k 0=j at hne;generalize (zn P n).getD p 0=i at hne;simp only [List.getD,List.getElem?_set_ne hne]
theorem zdh {l z0r:List Int} {P:Nat->Bool} (hl:z0r.length=l.length) (hz:∀ i,i < l.length->P i=false->z0r.getD i 0=0):z0U l (zn P l.length) (z0k z0r P l.length) (zn P l.length).length=z1o l z0r:=by
 have hlen:(z0U l (zn P l.length) (z0k z0r P l.length) (zn P l.length).length).length=(z1o l z0r).length:=(by rw [z59,z1o,List.length_zipWith,hl];omega);apply List.ext_getElem hlen;intro i h1 h2;have hi:i < l.length:=(by rw [z59] at h1;exact h1);have hm:i < z0r.length:=(by omega);have e1:(z0U l (zn P l.length) (z0k z0r P l.length) (zn P l.length).length)[i]=(z0U l (zn P l.length) (z0k z0r P l.length) (zn P l.length).length).getD i 0:=(by simp [List.getD,h1]);have e2:(z1o l z0r)[i]=l.getD i 0+z0r.getD i 0:=(by simp [z1o,List.getD,hi,hm]);rw [e1,e2]
 cases hP:P i with
 | false =>
  rw [hz i hi hP,z7F l _ _ _ (λp hp e=>by
   have:=(z3w hp).2;rw [show (zn P l.length).getD p 0=(zn P l.length)[p] by simp [List.getD,hp]] at e;rw [e,hP] at this
   cases this)]
  omega
 | true =>
  have hmem:i ∈ zn P l.length:=(by unfold zn;rw [List.mem_filter];exact ⟨List.mem_range.2 hi,hP⟩);obtain ⟨p,hp,hpe⟩:=List.getElem_of_mem hmem;have hd:(zn P l.length).getD p 0=i:=(by simp [List.getD,hp,hpe]);have:=zbS (l:=l) (P:=P) (n:=l.length) lR (z0k z0r P l.length) (p:=p) (zn P l.length).length lR hp;rw [hd,z45 hp,hpe] at this;exact this
end
section
open Go.RowKit Go.Shelf Go.Lib Go.Sort
theorem ze4 (a b:Int) (w:World):Calls prog 165 #[int i64 a,int i64 b] w λe w'=>e=.returned (int i64 (if a < b then -1 else if b < a then 1 else 0))/\w'=w:=by
 have hn:∀ (x:Int) (W:World),Calls prog 170 #[int i64 x] W λe w'=>e=.returned (.bool false)/\w'=W:=λx W=>by
  have hx:(x != x)=false:=(by simp);go_enter func170,ntmps170;go_wp2;go_ret;exact ⟨rfl,rfl⟩
 by_cases h1:a < b
 ·rw [if_pos h1];go_enter func165,ntmps165;go_wp2_with (go_at_call 170;refine (hn _ _).mono ?_;rintro e w' ⟨rfl,rfl⟩)
  go_ret;exact ⟨rfl,rfl⟩
 ·rw [if_neg h1];by_cases h2:b < a
  ·rw [if_pos h2];go_enter func165,ntmps165;go_wp2_with (go_at_call 170;refine (hn _ _).mono ?_;rintro e w' ⟨rfl,rfl⟩)
   go_ret;exact ⟨rfl,rfl⟩
  ·rw [if_neg h2];go_enter func165,ntmps165;go_wp2_with (go_at_call 170;refine (hn _ _).mono ?_;rintro e w' ⟨rfl,rfl⟩)
   go_ret;exact ⟨rfl,rfl⟩
theorem ziH (x y:Cl) (W:World):Calls prog 160 #[.agg #[int i64 x.p,int i64 x.w,int i64 x.o],.agg #[int i64 y.p,int i64 y.w,int i64 y.o]] W λe w'=>e=.returned (int i64 (cfC x y))/\∃ q os',w'=grow (W.drewN q) os':=by
 have hcon:=λW'=>ze4 y.o x.o W';have he:cfC x y=(if y.o < x.o then -1 else if x.o < y.o then 1 else 0):=rfl;rw [he];generalize (if y.o < x.o then (-1:Int) else if x.o < y.o then 1 else 0)=r at hcon;go_enter func160,ntmps160;go_wp2_with (go_at_call 165;refine (hcon _).mono ?_;rintro e w' ⟨rfl,rfl⟩)
 go_ret;exact ⟨rfl,0,_,by rw [alloc_eq_grow,alloc_eq_grow,grow_grow];rfl⟩
theorem zdm (blk off size:Nat) (w:World):CmpLays prog 160 #[] z1R 3 cfC blk off size w:=λ_ _ _ _ x y=>ziH x y _
theorem egC:∀ args w,(callFunc 160 args).run prog w=.ok (.enter 160 args) w:=enters_of func160 (by kernel_rfl) rfl
theorem z7T (lt:Cl->Cl->Bool) (a:Nat):∀ (j:Nat) (d:Array Cl),(insInner lt a j d).size=d.size
 | 0,d=>by unfold insInner;rfl
 | j+1,d=>by
  unfold insInner
  split
  ·rw [z7T lt a j,size_swp]
  ·rfl
theorem z7U (lt:Cl->Cl->Bool) (a b:Nat):∀ (n i:Nat) (d:Array Cl),b - i=n->(insOuter lt a b i d).size=d.size
 | 0,i,d,hn=>by rw [insOuter_stop _ _ _ _ _ (by omega)]
 | n+1,i,d,hn=>by rw [insOuter_go _ _ _ _ _ (by omega),z7U lt a b n (i+1) _ (by omega),z7T]
theorem ziI (d:Array Cl) (a b:Nat):(Sort.insertionSort (ltOf cfC) d a b).size=d.size:=z7U _ _ _ _ _ _ rfl
shelf_lay_g SlLaysF0.n20 Slsf 20 at Tryz 168 as insSC
theorem zjN (blk off cap a b:Nat) (d0 d:Array Cl) (w0 w:World) (R:RowK z1R 3 w0 blk off d0) (hs:d0.size=d.size) (S:SWK z1R 3 w0 blk off d w) (hab:a<=b) (hb:b<=d.size) (hsz:d.size < 4611686018427387904) :
  Calls prog 168 #[.slice (some ⟨blk,off,none⟩) d.size cap,int i64 a,int i64 b,.func (.func 160) #[] #[]] w λe w' =>
   e=.returned (.tuple #[])/\SWK z1R 3 w0 blk off (Sort.insertionSort (ltOf cfC) d a b) w':=by
 have hbl:blk < w.heap.size:=nL R.hblk S.le;refine (AnyQ.insertionSortCmpFunc insSC 3 isAgg195 sizeOf195 z1R z9o z9p cfC 160 #[] blk off cap a b d w egC (zdm blk off d.size w) (S.holds R.hblk R.hH (by omega)) hbl hab hb hsz).mono ?_;rintro e w' ⟨rfl,n,os,rfl⟩;exact ⟨rfl,S.on R.hblk n _ os (ziI d a b)⟩
end
end Go.Proofs.YtggmjiddadjilahGreat
