/-
  PROVED HERE: what a claim is, its three cells, and how two are held against each other. Also: 10 more texts of the same proof.
-/
import Derived.Test.YtggmjiddadjilalGreatB18
import Derived.Shelf.SlSortCmp.KitK
set_option maxRecDepth 1000000
set_option maxHeartbeats 40000000
namespace Go.Proofs.YtggmjiddadjilalGreat
open Value (int)
open IntKind (i64)
section
open Go.RowKit Go.Shelf Go.Lib Go.Sort
structure Cl where
 p:Int
 w:Int
 o:Int
deriving Inhabited
def z0V (x:Cl):List Value:=[int i64 x.p,int i64 x.w,int i64 x.o]
def cfC (x y:Cl):Int:=if y.o < x.o then -1 else if x.o < y.o then 1 else 0
theorem z6P (x:Cl):(z0V x).length=3:=rfl
theorem z6Q (x:Cl):∀ v ∈ z0V x,v.oneCell'=true:=fun v hv=>by simp [z0V] at hv;rcases hv with rfl | rfl | rfl <;> rfl
def wts (l:List Int):List Int:=if l.sum=0 then List.replicate l.length 1 else l
theorem z35 (l:List Int):(wts l).length=l.length:=by unfold wts;split <;> simp
theorem z4A:∀ n:Nat,(List.replicate n (1:Int)).sum=n
 | 0=>rfl
 | n+1=>by rw [List.replicate_succ,List.sum_cons,z4A n];omega
theorem z9h {l:List Int} (h:l.all wtB=true):(wts l).all wtB=true:=by
 unfold wts
 split
 ·rw [List.all_eq_true];intro x hx;rw [(List.mem_replicate.1 hx).2];rfl
 ·exact h
theorem z4t {l:List Int} (h:l.all wtB=true) (h0:0 < l.length):0 < (wts l).sum:=by
 unfold wts
 split
 ·rw [z4A];omega
 ·have:=(z2B h).1;omega
def cl (t:Int) (u:List Int) (i:Nat):Cl:=⟨i,t * u.getD i 0 / u.sum,t * u.getD i 0 % u.sum⟩
def clL (t:Int) (u:List Int):List Cl:=(List.range u.length).map (cl t u)
theorem z36 (t:Int) (u:List Int):(clL t u).length=u.length:=by simp [clL]
theorem z7X {t:Int} {u:List Int} {i:Nat} (h:i < u.length):(clL t u)[i]?=some (cl t u i):=by simp [clL,h]
theorem z6q {t:Int} {u:List Int} {i:Nat} (h:i < u.length):(clL t u).toArray[i]! = cl t u i:=by
 rw [getElem!_def,List.getElem?_toArray,z7X h]
def z77 (n:Nat):Array Value:=madeCells (Value.agg #[int i64 0,int i64 0,int i64 0]).cells (n * 3)
theorem z78 (n:Nat):(z77 n).size=n * 3:=by rw [z77,size_madeCells]
theorem zfj:(Tryz.prog.info? 150).map (fun i=>(i.zero,i.size,i.bytes))=some (some (Value.agg #[int i64 0,int i64 0,int i64 0]),3,24):=by kernel_rfl
theorem zfk (n:Nat) (hn:n<=1048576) (u:World):(Instr.makeSlice 147 (int i64 (n:Int)) (int i64 (n:Int))).run Tryz.prog u=.ok (.slice (some ⟨u.heap.size,0,none⟩) n n) (u.alloc (.cells (z77 n) 150)):=by
 obtain ⟨i0,hi,hz0,hz1,hz2⟩:=info_parts zfj;have h:=run_make (P:=Tryz.prog) u 147 150 i0 _ Tryz.underlying147 hi hz0 .i64 .i64 (n:Int) (n:Int) (by omega) (Int.le_refl _) (by rw [hz2];omega) (by omega);rw [hz1,Int.toNat_natCast] at h;exact h
def z5p (arr:Array Value) (L:Nat->Cl) (k:Nat):Prop:=∀ i,i < k->arr[i * 3]?=some (int i64 (L i).p)/\arr[i * 3+1]?=some (int i64 (L i).w)/\arr[i * 3+2]?=some (int i64 (L i).o)
theorem z5p.next {arr:Array Value} {L:Nat->Cl} {k n:Nat} (h:z5p arr L k) (hs:arr.size=n * 3) (hk:k < n) :
  z5p (((arr.setIfInBounds (k * 3) (int i64 (L k).p)).setIfInBounds (k * 3+1) (int i64 (L k).w)).setIfInBounds (k * 3+2) (int i64 (L k).o)) L (k+1):=by
 have eq:∀ (A:Array Value) (i:Nat) (v:Value),i < A.size->(A.setIfInBounds i v)[i]?=some v:=fun A i v hi=>by simp [hi]
 intro i hi
 rcases Nat.lt_or_eq_of_le (Nat.lt_succ_iff.1 hi) with hlt | rfl
 ·obtain ⟨h1,h2,h3⟩:=h i hlt;refine ⟨?_,?_,?_⟩
  ·rw [Array.getElem?_setIfInBounds_ne (by omega),Array.getElem?_setIfInBounds_ne (by omega),Array.getElem?_setIfInBounds_ne (by omega)];exact h1
  ·rw [Array.getElem?_setIfInBounds_ne (by omega),Array.getElem?_setIfInBounds_ne (by omega),Array.getElem?_setIfInBounds_ne (by omega)];exact h2
  ·rw [Array.getElem?_setIfInBounds_ne (by omega),Array.getElem?_setIfInBounds_ne (by omega),Array.getElem?_setIfInBounds_ne (by omega)];exact h3
 ·refine ⟨?_,?_,?_⟩
  ·rw [Array.getElem?_setIfInBounds_ne (by omega),Array.getElem?_setIfInBounds_ne (by omega)];exact eq _ _ _ (by omega)
  ·rw [Array.getElem?_setIfInBounds_ne (by omega)];exact eq _ _ _ (by rw [Array.size_setIfInBounds];omega)
  ·exact eq _ _ _ (by rw [Array.size_setIfInBounds,Array.size_setIfInBounds];omega)
theorem z9i {w:World} {g n:Nat} {arr:Array Value} {T:TypeId} {L:Nat->Cl} {d:Array Cl} (hg:w.heap[g]?=some (.cells arr T)) (ha:z5p arr L n) (hd:d.size=n) (hL:∀ i,i < n->d[i]! = L i):HoldsK z0V 3 w g 0 d:=by
 intro j hj;rw [size_flatK,hd] at hj;have hq:j / 3 < n:=(by omega);obtain ⟨h1,h2,h3⟩:=ha (j / 3) hq;refine ⟨?_,zr hg⟩;rw [Nat.zero_add,zf hg,get_flatK _ _ _ _ (by rw [hd];exact hj),hL _ hq];show arr[j]?=some ((z0V (L (j / 3)))[j % 3]!)
 rcases (by omega:j % 3=0\/j % 3=1\/j % 3=2) with e | e | e
 ·rw [e];rw [show j=j / 3 * 3 by omega];rw [Nat.mul_div_cancel _ (by omega)];exact h1
 ·rw [e,show arr[j]?=arr[j / 3 * 3+1]? from by congr 1;omega];exact h2
 ·rw [e,show arr[j]?=arr[j / 3 * 3+2]? from by congr 1;omega];exact h3
theorem z79 {w:World} {g:Nat} {arr:Array Value} {t:Int} {u:List Int} (hg:w.heap[g]?=some (.cells arr 150)) (ha:z5p arr (cl t u) u.length):RowK z0V 3 w g 0 (clL t u).toArray :=
 ⟨z6P,z6Q,z9i hg ha (by simp [z36]) (fun _ hi=>z6q hi),(bL hg)⟩
theorem z8m {a s:Int} (hs:0 < s):0<=a % s/\a % s < s:=⟨Int.emod_nonneg _ (by omega),Int.emod_lt_of_pos _ hs⟩
theorem z9j (t:Int) (v:Value) (l:List Int) (ht:0<=t/\t<=100000) (h0:0 < l.length) (hl:l.length<=100) (hw:l.all wtB=true) (w:World) (h:z0g w v l) :
  Calls Tryz.prog 92 #[int i64 t,v] w fun e w'=>∃ g,e=.returned (.slice (some ⟨g,0,none⟩) l.length l.length)/\w.heap.size<=g/\RowK z0V 3 w' g 0 (clL t (wts l)).toArray/\Below w.heap.size w w':=by
 obtain ⟨a,cap,rfl,_⟩:=h.form;have H:=Hd h;clear h;have HS:=Hd (fun W=>z5N (.slice a l.length cap) l (by omega) hw W);have hmk:=zfk l.length (by omega);have hpos:=z4t hw h0;have hsb:=z2B (z9h hw);rw [z35] at hsb;have HWT:=Hd (z9h hw);have HLN:=Hd (z35 l);by_cases hz:l.sum=0
 ·have hwt:wts l=List.replicate l.length 1:=(by rw [wts,if_pos hz]);have hsum:(wts l).sum=l.length:=(by rw [hwt,z4A]);have HZ:=Hd hz;have HSM:=Hd hsum;have HU:=Hd hwt;rw [hz] at HS;rw [hsum] at hpos hsb;generalize wts l=u at HWT HLN HSM HU |-;clear hz hsum hwt hw;go_enter Tryz.func92,Tryz.ntmps92;go_wp2_with fail
  refine (HS.out _ H.out).mono ?_;rintro e w1 ⟨rfl,e1⟩
  cases e1
  go_wp2_with fail
  refine (zbo w.heap.size l.length h0 hl _ (by simp) (by simp)).mono ?_;rintro e w2 ⟨a2,cap2,rfl,hr2,hb2⟩
  have R2:Hid (z0g w2 (.slice a2 l.length cap2) u):=by
   have:=hr2.at;rw [<-HU.out] at this;exact this
  have K2:=Hd (zg (ze (Below.refl w.heap.size w) (.cells #[int i64 1] 3)) hb2);clear hr2 hb2;go_wp2_with fail
  clear hmk;have hw2:=K2.out.size;go_loopw [24] (fun i W=>∃ (k:Nat) (arr:Array Value),k<=l.length/\i=int i64 k/\Hid (W.heap[w2.heap.size]?=some (.cells arr 150))/\arr.size=l.length * 3/\Hid (z5p arr (cl t u) k)/\Hid (Below w2.heap.size w2 W)) (fun i _=>l.length - (intOf i).toNat)
  case atStart=>exact ⟨0,z77 l.length,Nat.zero_le _,rfl,zk _ _,z78 _,fun i hi=>absurd hi (Nat.not_lt_zero _),ze (Below.refl _ _) _⟩
  case round =>
   obtain ⟨k,arr,hk,rfl,HBk,hsz,HA,HB⟩:=hrel;by_cases hlt:k < l.length
   ·have hku:k < u.length:=(by rw [HLN.out];exact hlt);obtain ⟨b,off,cap',e',hc1,hc2,hbl,hx⟩:=(R2.out.kept HB.out).get hku;rw [HLN.out] at e' hc1;simp only [Value.slice.injEq,true_and] at e';obtain ⟨rfl,rfl⟩:=e';have hx0:=z2Y HWT.out hku;have hm:=z4S ht hx0;have HN:=Hd (HA.out.next (n:=l.length) hsz hlt);have ecl:cl t u k=⟨k,t * u.getD k 0 / l.length,t * u.getD k 0 % l.length⟩:=(by rw [cl,HSM.out]);rw [ecl] at HN;generalize u.getD k 0=x at hx hx0 hm HN;clear ecl hku;unfold maxLen at hc2;obtain ⟨y0,q0⟩:=z4b (p:=k * 3) HBk.out (by omega);obtain ⟨y1,q1⟩:=z4b (p:=k * 3+1) HBk.out (by omega);obtain ⟨y2,q2⟩:=z4b (p:=k * 3+2) HBk.out (by omega);have fz:∀ p,wr.frozen? ⟨w2.heap.size,p,none⟩=false:=fun p=>zr HBk.out;have hdv:=Int.ediv_nonneg hm.1 (show (0:Int)<=(l.length:Int) by omega);have hdw:=Int.le_trans (Int.ediv_le_self (l.length:Int) hm.1) hm.2;have hrm:=z8m (a:=t * x) (s:=(l.length:Int)) (by omega);go_wp2_with fail
    go_region
    all_goals
     go_wp2;go_roundw
     case rel=>exact ⟨k+1,_,by omega,by go_num,zM (zM (zM HBk.out _) _) _,by rw [Array.size_setIfInBounds,Array.size_setIfInBounds,Array.size_setIfInBounds];exact hsz,HN,zw (zw (zw (z1P HB.out) (Nat.le_refl _) _) (Nat.le_refl _) _) (Nat.le_refl _) _⟩
     case measure=>simp [intOf];omega
   ·obtain rfl:k=l.length:=by omega
    go_wp2;go_ret;exact ⟨_,rfl,hw2,z79 HBk.out (by rw [HLN.out];exact HA.out),zg K2.out HB.out⟩
 ·have hwt:wts l=l:=(by rw [wts,if_neg hz]);rw [hwt] at hpos hsb |-;have hzb:(l.sum == 0)=false:=(by simpa using hz);have HG:=Hd (fun i hi=>z2Y (i:=i) hw hi);have HSM:Hid (∀ k,cl t l k=⟨k,t * l.getD k 0 / l.sum,t * l.getD k 0 % l.sum⟩):=fun _=>rfl;generalize l.sum=s at HS HSM hpos hsb hzb hz;clear HWT HLN hwt hw;go_enter Tryz.func92,Tryz.ntmps92;go_wp2_with fail
  refine (HS.out _ H.out).mono ?_;rintro e w1 ⟨rfl,e1⟩
  cases e1
  go_wp2_with fail
  clear hmk;go_loopw [24] (fun i W=>∃ (k:Nat) (arr:Array Value),k<=l.length/\i=int i64 k/\Hid (W.heap[w.heap.size]?=some (.cells arr 150))/\arr.size=l.length * 3/\Hid (z5p arr (cl t l) k)/\Hid (Below w.heap.size w W)) (fun i _=>l.length - (intOf i).toNat)
  case atStart=>exact ⟨0,z77 l.length,Nat.zero_le _,rfl,zk _ _,z78 _,fun i hi=>absurd hi (Nat.not_lt_zero _),ze (Below.refl _ _) _⟩
  case round =>
   obtain ⟨k,arr,hk,rfl,HBk,hsz,HA,HB⟩:=hrel;by_cases hlt:k < l.length
   ·obtain ⟨b,off,cap',e',hc1,hc2,hbl,hx⟩:=(H.out.kept HB.out).get hlt;simp only [Value.slice.injEq,true_and] at e';obtain ⟨rfl,rfl⟩:=e';have hx0:=HG.out k hlt;have hm:=z4S ht hx0;have HN:=Hd (HA.out.next (n:=l.length) hsz hlt);rw [HSM.out k] at HN;generalize l.getD k 0=x at hx hx0 hm HN;unfold maxLen at hc2;obtain ⟨y0,q0⟩:=z4b (p:=k * 3) HBk.out (by omega);obtain ⟨y1,q1⟩:=z4b (p:=k * 3+1) HBk.out (by omega);obtain ⟨y2,q2⟩:=z4b (p:=k * 3+2) HBk.out (by omega);have fz:∀ p,wr.frozen? ⟨w.heap.size,p,none⟩=false:=fun p=>zr HBk.out;have hdv:=Int.ediv_nonneg hm.1 (show (0:Int)<=s by omega);have hdw:=Int.le_trans (Int.ediv_le_self s hm.1) hm.2;have hrm:=z8m (a:=t * x) (s:=s) (by omega);go_wp2_with fail
    go_region
    all_goals
     go_wp2;go_roundw
     case rel=>exact ⟨k+1,_,by omega,by go_num,zM (zM (zM HBk.out _) _) _,by rw [Array.size_setIfInBounds,Array.size_setIfInBounds,Array.size_setIfInBounds];exact hsz,HN,zw (zw (zw (z1P HB.out) (Nat.le_refl _) _) (Nat.le_refl _) _) (Nat.le_refl _) _⟩
     case measure=>simp [intOf];omega
   ·obtain rfl:k=l.length:=by omega
    go_wp2;go_ret;exact ⟨_,rfl,Nat.le_refl _,z79 HBk.out HA.out,HB.out⟩
end
section
open Go.Sort
theorem zez (x y:Cl):ltOf cfC x y=decide (y.o < x.o):=by
 unfold ltOf cfC
 split
 ·simp;omega
 ·split <;> (simp;omega)
def tB (x y:Cl):Bool:=decide (y.o < x.o\/(x.o=y.o/\(x.p < y.p\/(x.p=y.p/\x.w < y.w))))
theorem z4C (x y:Cl):tB x y=true ↔ (y.o < x.o\/(x.o=y.o/\(x.p < y.p\/(x.p=y.p/\x.w < y.w)))):=by simp [tB]
theorem z7b (x y:Cl):tB x y=false ↔ ¬ (y.o < x.o\/(x.o=y.o/\(x.p < y.p\/(x.p=y.p/\x.w < y.w)))):=by rw [<-z4C];simp
theorem z30:SWO tB where
 irrefl:=fun x=>by rw [z7b];omega
 trans:=fun x y z h1 h2=>by rw [z4C] at *;omega
 ntrans:=fun x y z h1 h2=>by rw [z7b] at *;omega
theorem zdk (x y:Cl) (h1:tB x y=false) (h2:tB y x=false):x=y:=by
 rw [z7b] at h1 h2;obtain ⟨a,b,c⟩:=x;obtain ⟨a',b',c'⟩:=y;simp only at h1 h2;obtain rfl:a=a':=by omega
 obtain rfl:b=b':=by omega
 obtain rfl:c=c':=by omega
 rfl
theorem z9f {x y:Cl} (h:y.p < x.p):ltOf cfC x y=tB x y:=by
 rw [zez,Bool.eq_iff_iff,z4C,decide_eq_true_eq];omega
theorem z4D {x y:Cl} (h:tB x y=true):tB y x=false:=z30.asymmA h
theorem z7c (lt:Cl->Cl->Bool) (a b:Nat):∀ (j:Nat) (d:Array Cl),a<=j->j < b->b<=d.size->PermIn a b d (insInner lt a j d)
 | 0,d,_,_,_=>by unfold insInner;exact permIn_refl d a b
 | j+1,d,haj,hjb,hb=>by
  unfold insInner
  split
  ·rename_i hc
   simp only [Bool.and_eq_true,decide_eq_true_eq] at hc;exact permIn_trans _ _ _ a b (swp_permIn d a b (j+1) j haj hjb (by omega) (by omega) hb) (z7c lt a b j _ (by omega) (by omega) (by rw [size_swp];exact hb))
  ·exact permIn_refl d a b
theorem z9k (a:Nat):∀ (j:Nat) (d:Array Cl),j < d.size->(∀ q,a<=q->q < j->d[q]!.p < d[j]!.p)->insInner (ltOf cfC) a j d=insInner tB a j d
 | 0,d,_,_=>by unfold insInner;rfl
 | j+1,d,hj,h=>by
  unfold insInner;by_cases ha:j+1 > a
  ·have e:ltOf cfC d[j+1]! d[j]! = tB d[j+1]! d[j]! := z9f (h j (by omega) (by omega));rw [e]
   cases hc:tB d[j+1]! d[j]!
   ·simp
   ·simp only [ha,decide_true,Bool.and_self,if_true];refine z9k a j _ (by rw [size_swp];omega) (fun q h1 h2=>?_);rw [swp_right _ _ _ (by omega),swp_other _ _ _ _ (by omega) (by omega)];exact h q h1 (by omega)
  ·simp [ha]
theorem z9l (a b:Nat):∀ (n i:Nat) (d:Array Cl),b - i=n->a < i->b<=d.size->(∀ x y,a<=x->x < y->i<=y->y < b->d[x]!.p < d[y]!.p)->insOuter (ltOf cfC) a b i d=insOuter tB a b i d
 | 0,i,d,hn,_,_,_=>by rw [insOuter_stop _ _ _ _ _ (by omega),insOuter_stop _ _ _ _ _ (by omega)]
 | n+1,i,d,hn,hai,hb,h=>by
  have hlt:i < b:=(by omega);rw [insOuter_go _ _ _ _ _ hlt,insOuter_go _ _ _ _ _ hlt,z9k a i d (by omega) (fun q h1 h2=>h q i h1 h2 (Nat.le_refl _) hlt)];have hP:=z7c tB a (i+1) i d (by omega) (by omega) (by omega);refine z9l a b n (i+1) _ (by omega) (by omega) (by rw [hP.1];exact hb) (fun x y h1 h2 h3 h4=>?_);rw [hP.2.1 y (Or.inr h3)];by_cases hx:x < i+1
  ·exact permIn_all d _ a (i+1) (fun z=>z.p < d[y]!.p) (by omega) hP (fun q h5 h6=>h q y h5 (by omega) (by omega) h4) x h1 hx
  ·rw [hP.2.1 x (Or.inr (by omega))];exact h x y h1 h2 (by omega) h4
def Asc (a b:Nat) (d:Array Cl):Prop:=∀ x y,a<=x->x < y->y < b->d[x]!.p < d[y]!.p
theorem z8n (d:Array Cl) (a b:Nat) (hab:a<=b) (hb:b<=d.size) (h:Asc a b d):PermIn a b d (Sort.insertionSort (ltOf cfC) d a b)/\SortedIn tB a b (Sort.insertionSort (ltOf cfC) d a b):=by
 have e:Sort.insertionSort (ltOf cfC) d a b=Sort.insertionSort tB d a b:=by
  unfold Sort.insertionSort;exact z9l a b (b - (a+1)) (a+1) d rfl (by omega) hb (fun x y h1 h2 _ h4=>h x y h1 h2 h4)
 rw [e];exact insertionSort_holds z30 d a b hab hb
def z16 (t:Int) (u:List Int):List Int:=(clL t u).map (·.w)
theorem z0X (t:Int) (u:List Int):(z16 t u).length=u.length:=by simp [z16,z36]
theorem z3T {t:Int} {u:List Int} {i:Nat} (h:i < u.length):(z16 t u).getD i 0=t * u.getD i 0 / u.sum:=by
 rw [List.getD,z16,List.getElem?_map,z7X h];rfl
theorem z3U {t:Int} {l:List Int} (h:zt t l=true):zt t (wts l)=true:=by
 simp only [zt,Bool.and_eq_true] at h |-;obtain ⟨⟨h1,h2⟩,h3⟩:=h;exact ⟨⟨h1,by rw [z35];exact h2⟩,z9h h3⟩
theorem z4E {t:Int} {u:List Int} (h:zt t u=true) (hs:0 < u.sum):∀ k,k<=u.length->zx (z16 t u) k=z0J t u k
 | 0,_=>by simp [zx,z0J]
 | k+1,hk=>by
  have hlt:k < u.length:=(by omega);rw [z0E (by rw [z0X];exact hlt),z4E h hs k (by omega),z3T hlt,z0J,z4s h (z4u hlt) (by omega),Int.toNat_natCast]
theorem z5r {t:Int} {u:List Int}:∀ {i j:Nat},i<=j->z0J t u i<=z0J t u j
 | i,0,h=>by
  obtain rfl:i=0:=by omega
  exact Int.le_refl _
 | i,j+1,h=>by
  rcases Nat.lt_or_eq_of_le h with h1 | rfl
  ·have:=z5r (t:=t) (u:=u) (i:=i) (j:=j) (by omega);have:=(z6x (t:=t) (l:=u) j).1;rw [z0J];omega
  ·exact Int.le_refl _
def z20 (t:Int) (u:List Int):Nat:=(t - z0J t u u.length).toNat
theorem z5c {t:Int} {u:List Int} (h:zt t u=true) (hs:0 < u.sum):(z20 t u:Int)=t - z0J t u u.length/\z20 t u < u.length:=by
 have:=z4B h hs;unfold z20;omega
theorem zfl (t:Int) (u:List Int):Asc 0 (clL t u).toArray.size (clL t u).toArray:=by
 intro x y _ h1 h2;have h3:y < u.length:=(by simpa [z36] using h2);rw [z6q (by omega),z6q h3];show (x:Int) < (y:Int);omega
def zX (t:Int) (u:List Int):List Cl:=(clL t u).mergeSort (fun x y=>!tB y x)
theorem z4F (t:Int) (u:List Int):(zX t u).length=u.length:=by rw [zX,List.length_mergeSort,z36]
theorem z5s {t:Int} {u:List Int} {c:Cl} (h:c ∈ zX t u):∃ i,i < u.length/\c=cl t u i:=by
 rw [zX,List.mem_mergeSort,clL,List.mem_map] at h;obtain ⟨i,h1,h2⟩:=h;exact ⟨i,List.mem_range.1 h1,h2.symm⟩
theorem zfm {t:Int} {u:List Int} {d:Array Cl} (hp:PermIn 0 (clL t u).toArray.size (clL t u).toArray d) (hs:SortedIn tB 0 (clL t u).toArray.size d):d=(zX t u).toArray:=by
 have h:=sorted_unique_holds z30 zdk (clL t u).toArray d hp hs;apply Array.toList_inj.1;rw [h];simp [zX]
def z5Y (g:List Int) (c:Cl):List Int:=g.set c.p.toNat (g.getD c.p.toNat 0+1)
theorem zdl (g:List Int) (c:Cl):(z5Y g c).length=g.length:=by simp [z5Y]
def z1s (g:List Int) (s:List Cl) (k:Nat):List Int:=(s.take k).foldl z5Y g
theorem z4c (g:List Int) (s:List Cl):z1s g s 0=g:=rfl
theorem z4d {g:List Int} {s:List Cl} {k:Nat} (h:k < s.length):z1s g s (k+1)=z5Y (z1s g s k) s[k]:=by
 unfold z1s;rw [List.take_add_one,List.foldl_append,List.getElem?_eq_getElem h];rfl
theorem z3V (g:List Int) (s:List Cl):∀ k,(z1s g s k).length=g.length:=by
 intro k;unfold z1s
 induction s.take k generalizing g with
 | nil=>rfl
 | cons c r ih=>rw [List.foldl_cons,ih,zdl]
theorem z9m (g:List Int) (c:Cl) (i:Nat) (hi:i < g.length):(z5Y g c).getD i 0=if c.p.toNat=i then g.getD i 0+1 else g.getD i 0:=by
 unfold z5Y;by_cases e:c.p.toNat=i
 ·subst e;simp [List.getD,hi]
 ·simp [List.getD,List.getElem?_set_ne e,e]
theorem z55 {g:List Int} {s:List Cl} {B:Int} (hg:∀ i,i < g.length->0<=g.getD i 0/\g.getD i 0<=B):∀ k,k<=s.length->∀ i,i < g.length->0<=(z1s g s k).getD i 0/\(z1s g s k).getD i 0<=B+k
 | 0,_,i,hi=>by have:=hg i hi;rw [z4c];omega
 | k+1,hk,i,hi=>by
  have ih:=z55 (s:=s) hg k (by omega) i hi;rw [z4d (show k < s.length by omega),z9m _ _ _ (by rw [z3V];exact hi)]
  split <;> omega
def zo (t:Int) (l:List Int):List Int:=if zt t l=true/\l ≠ [] then z1s (z16 t (wts l)) (zX t (wts l)) (z20 t (wts l)) else []
theorem z3N {t:Int} {l:List Int} (h:¬ (zt t l=true/\l ≠ [])):zo t l=[]:=by rw [zo,if_neg h]
theorem z29 {t:Int} {l:List Int} (h1:zt t l=true) (h2:l ≠ []):zo t l=z1s (z16 t (wts l)) (zX t (wts l)) (z20 t (wts l)):=by rw [zo,if_pos ⟨h1,h2⟩]
theorem z17 {t:Int} {l:List Int} (h1:zt t l=true):(zo t l).length=l.length:=by
 by_cases h2:l=[]
 ·subst h2;rw [z3N (by simp)]
 ·rw [z29 h1 h2,z3V,z0X,z35]
theorem z7d {t:Int} {u:List Int} (h:zt t u=true) (hs:0 < u.sum) {i:Nat} (hi:i < u.length):0<=(z16 t u).getD i 0/\(z16 t u).getD i 0<=100000:=by
 have h1:=z4E h hs i (by omega);have h2:=z4E h hs (i+1) (by omega);rw [z0E (by rw [z0X];exact hi)] at h2;have h3:=z5r (t:=t) (u:=u) (i:=i+1) (j:=u.length) (by omega);have h4:=(z4B h hs).1;have h5:=(z09 h).1;have h6:=z5q (t:=t) (l:=u) i
 have h7:0<=(z16 t u).getD i 0:=by
  rw [z3T hi];have hw:=(z09 h).2.2;exact Int.ediv_nonneg (z4S h5 (z2Y hw hi)).1 (by omega)
 exact ⟨h7,by omega⟩
theorem z1y {t:Int} {l:List Int} (i:Nat) (hi:i < (zo t l).length):0<=(zo t l).getD i 0/\(zo t l).getD i 0<=100200:=by
 by_cases hc:zt t l=true/\l ≠ []
 ·obtain ⟨h1,h2⟩:=hc;have hw:=(z09 h1).2;have h0:0 < l.length:=List.length_pos_iff.2 h2;have hp:=z4t hw.2 h0;have hl:=z5c (z3U h1) hp;rw [z17 h1] at hi;rw [z29 h1 h2];have:=z55 (B:=100000) (s:=zX t (wts l)) (fun j hj=>z7d (z3U h1) hp (by rw [z0X] at hj;exact hj)) (z20 t (wts l)) (by rw [z4F];omega) i (by rw [z0X,z35];exact hi);rw [z35] at hl;omega
 ·rw [z3N hc] at hi
  cases hi
def z6R (t:Int) (u:List Int):List Int:=(clL t u).map (·.o)
theorem z6S (t:Int) (u:List Int):(z6R t u).length=u.length:=by simp [z6R,z36]
theorem zdm {t:Int} {u:List Int} {i:Nat} (h:i < u.length):(z6R t u).getD i 0=t * u.getD i 0 % u.sum:=by
 rw [List.getD,z6R,List.getElem?_map,z7X h];rfl
def z3g (lr:List Int) (bl:List Bool) (m:Nat) (k:Int):Prop :=
 (k=-1/\∀ i,i < m->bl.getD i false=true)\/∃ j:Nat,k=j/\j < m/\bl.getD j false=false/\∀ i,i < m->bl.getD i false=false->lr.getD i 0 < lr.getD j 0\/(lr.getD i 0=lr.getD j 0/\j<=i)
theorem z3g.zero (lr:List Int) (bl:List Bool):z3g lr bl 0 (-1):=.inl ⟨rfl,fun _ h=>absurd h (Nat.not_lt_zero _)⟩
theorem z3g.got {lr:List Int} {bl:List Bool} {m:Nat} {k:Int} (h:z3g lr bl m k) (hb:bl.getD m false=true):z3g lr bl (m+1) k:=by
 rcases h with ⟨h1,h2⟩ | ⟨j,h1,h2,h3,h4⟩
 ·refine .inl ⟨h1,fun i hi=>?_⟩
  rcases Nat.lt_or_eq_of_le (Nat.lt_succ_iff.1 hi) with h | rfl
  ·exact h2 i h
  ·exact hb
 ·refine .inr ⟨j,h1,by omega,h3,fun i hi hn=>?_⟩
  rcases Nat.lt_or_eq_of_le (Nat.lt_succ_iff.1 hi) with h | rfl
  ·exact h4 i h hn
  ·rw [hb] at hn;cases hn
theorem z3g.first {lr:List Int} {bl:List Bool} {m:Nat} (h:∀ i,i < m->bl.getD i false=true) (hb:bl.getD m false=false):z3g lr bl (m+1) m:=by
 refine .inr ⟨m,rfl,Nat.lt_succ_self _,hb,fun i hi hn=>?_⟩
 rcases Nat.lt_or_eq_of_le (Nat.lt_succ_iff.1 hi) with h1 | rfl
 ·rw [h i h1] at hn;cases hn
 ·exact .inr ⟨rfl,Nat.le_refl _⟩
theorem z3g.more {lr:List Int} {bl:List Bool} {m j:Nat} (h4:∀ i,i < m->bl.getD i false=false->lr.getD i 0 < lr.getD j 0\/(lr.getD i 0=lr.getD j 0/\j<=i)) (hb:bl.getD m false=false) (hm:lr.getD j 0 < lr.getD m 0):z3g lr bl (m+1) m:=by
 refine .inr ⟨m,rfl,Nat.lt_succ_self _,hb,fun i hi hn=>?_⟩
 rcases Nat.lt_or_eq_of_le (Nat.lt_succ_iff.1 hi) with h1 | rfl
 ·have:=h4 i h1 hn;left;omega
 ·exact .inr ⟨rfl,Nat.le_refl _⟩
theorem z3g.less {lr:List Int} {bl:List Bool} {m j:Nat} (hj:j < m) (h3:bl.getD j false=false) (h4:∀ i,i < m->bl.getD i false=false->lr.getD i 0 < lr.getD j 0\/(lr.getD i 0=lr.getD j 0/\j<=i)) (hm:¬ lr.getD j 0 < lr.getD m 0):z3g lr bl (m+1) j:=by
 refine .inr ⟨j,rfl,by omega,h3,fun i hi hn=>?_⟩
 rcases Nat.lt_or_eq_of_le (Nat.lt_succ_iff.1 hi) with h1 | rfl
 ·exact h4 i h1 hn
 ·omega
theorem z7e (t:Int) (u:List Int):(zX t u).Pairwise (fun x y=>tB y x=false):=by
 have:=List.pairwise_mergeSort (le:=fun x y:Cl=>!tB y x) (fun a b c h1 h2=>by
   simp only [Bool.not_eq_true'] at h1 h2 |-;exact z30.ntrans c b a h2 h1) (fun a b=>by
   cases h:tB b a with
   | false=>simp
   | true=>simp [z4D h]) (clL t u)
 exact this.imp (fun h=>by simpa using h)
theorem z3A (t:Int) (u:List Int) (i:Nat):(cl t u i).p=i:=rfl
theorem zc8 (t:Int) (u:List Int):(zX t u).Nodup:=by
 rw [zX,(List.mergeSort_perm _ _).nodup_iff,clL];refine List.Pairwise.map _ (fun a b (h:a ≠ b) e=>h ?_) List.nodup_range;have:=congrArg Cl.p e;rw [z3A,z3A] at this;omega
theorem zeA {t:Int} {u:List Int} {i:Nat} (h:i < u.length):cl t u i ∈ zX t u:=by
 rw [zX,List.mem_mergeSort,clL];exact List.mem_map.2 ⟨i,List.mem_range.2 h,rfl⟩
def zgy (t:Int) (u:List Int) (bl:List Bool) (j:Nat):Prop:=∀ i,i < u.length->(bl.getD i false=true ↔ cl t u i ∈ (zX t u).take j)
instance:DecidableEq Cl:=fun a b=>decidable_of_iff (a.p=b.p/\a.w=b.w/\a.o=b.o) (by cases a;cases b;simp)
theorem zdn {a b:List Int} (h:a.Perm b):a.sum=b.sum:=by
 induction h with
 | nil=>rfl
 | cons x _ ih=>rw [List.sum_cons,List.sum_cons,ih]
 | swap x y l=>simp only [List.sum_cons];omega
 | trans _ _ h1 h2=>exact h1.trans h2
theorem zeB {l:List Int}:∀ {i:Nat},i < l.length->∀ x,(l.set i x).sum=l.sum - l.getD i 0+x:=by
 induction l with
 | nil=>intro i hi;cases hi
 | cons y r ih =>
  intro i hi x
  cases i with
  | zero=>simp [List.getD];omega
  | succ k =>
   have:=ih (i:=k) (by simpa using hi) x;simp only [List.set_cons_succ,List.sum_cons,this];simp [List.getD];omega
theorem zdo {g:List Int} {c:Cl} (h:c.p.toNat < g.length):(z5Y g c).sum=g.sum+1:=by
 rw [z5Y,zeB h];omega
theorem z8o {t:Int} {u:List Int} {g:List Int} (hg:g.length=u.length):∀ k,k<=(zX t u).length->(z1s g (zX t u) k).sum=g.sum+k
 | 0,_=>by rw [z4c];omega
 | k+1,hk=>by
  have hlt:k < (zX t u).length:=(by omega);obtain ⟨i,hi,he⟩:=z5s (List.getElem_mem hlt);rw [z4d hlt,zdo (by rw [he,z3A,z3V,hg];simpa using hi),z8o hg k (by omega)];omega
theorem z8p {t:Int} {u:List Int} {g:List Int} (hg:g.length=u.length) {i:Nat} (hi:i < u.length):∀ k,k<=(zX t u).length->(z1s g (zX t u) k).getD i 0=g.getD i 0+if cl t u i ∈ (zX t u).take k then 1 else 0
 | 0,_=>by rw [z4c];simp
 | k+1,hk=>by
  have hlt:k < (zX t u).length:=(by omega);obtain ⟨j,hj,he⟩:=z5s (List.getElem_mem hlt);rw [z4d hlt,z9m _ _ _ (by rw [z3V,hg];exact hi),z8p hg hi k (by omega),he,z3A,List.take_add_one,List.getElem?_eq_getElem hlt,he]
  have hno:cl t u j ∉ (zX t u).take k:=fun hm=>by
   obtain ⟨q,hq,hqe⟩:=List.getElem_of_mem hm;rw [List.length_take] at hq;rw [List.getElem_take] at hqe;exact List.pairwise_iff_getElem.1 (zc8 t u) q k (by omega) hlt (by omega) (by rw [hqe,he])
  by_cases e:j=i
  ·subst e;simp [hno]
  ·have e2:cl t u i ≠ cl t u j:=fun h=>e (by have:=congrArg Cl.p h;rw [z3A,z3A] at this;omega);simp [e,e2]
theorem z4T {t:Int} {l:List Int} (h1:zt t l=true) {i:Nat} (hi:i < l.length) :
  (zo t l).getD i 0=t * (wts l).getD i 0 / (wts l).sum+if cl t (wts l) i ∈ (zX t (wts l)).take (z20 t (wts l)) then 1 else 0:=by
 have h0:0 < l.length:=(by omega);have hw:=(z09 h1).2;have hp:=z4t hw.2 h0;have hl:=z5c (z3U h1) hp;have hu:i < (wts l).length:=(by rw [z35];exact hi);rw [z29 h1 (List.length_pos_iff.1 h0),z8p (z0X _ _) hu _ (by rw [z4F];omega),z3T hu]
theorem z2C {t:Int} {l:List Int} (h1:zt t l=true) (h0:0 < l.length):(zo t l).sum=t:=by
 have hw:=(z09 h1).2;have hp:=z4t hw.2 h0;have hk:=z3U h1;have hl:=z5c hk hp;rw [z29 h1 (List.length_pos_iff.1 h0),z8o (z0X _ _) _ (by rw [z4F];omega)];have:=z4E hk hp (wts l).length (Nat.le_refl _);rw [<-z0X t (wts l),z12,z0X] at this;omega
theorem z8q {t:Int} {u:List Int} {i k j:Nat} (hi:i < u.length) (h:tB (cl t u i) (cl t u k)=true) (hk:cl t u k ∈ (zX t u).take j):cl t u i ∈ (zX t u).take j:=by
 have hm:=zeA (t:=t) hi;rw [<-List.take_append_drop j (zX t u),List.mem_append] at hm
 rcases hm with hm | hm
 ·exact hm
 ·exfalso
  obtain ⟨q,hq,hqe⟩:=List.getElem_of_mem hk;obtain ⟨p,hp,hpe⟩:=List.getElem_of_mem hm;rw [List.length_take] at hq;rw [List.getElem_take] at hqe;rw [List.length_drop] at hp;rw [List.getElem_drop] at hpe;have:=List.pairwise_iff_getElem.1 (z7e t u) q (j+p) (by omega) (by omega) (by omega);rw [hqe,hpe,h] at this
  cases this
theorem zc9 {t:Int} {u:List Int}:((zX t u).map (·.o)).sum=(z6R t u).sum:=by
 rw [zX,z6R];exact zdn ((List.mergeSort_perm (clL t u) _).map _)
theorem zaZ {t:Int} {u:List Int} (h:zt t u=true) (hs:0 < u.sum):∀ k,k<=u.length->zx (z6R t u) k=t * zx u k - u.sum * z0J t u k
 | 0,_=>by simp [zx,z0J]
 | k+1,hk=>by
  have hlt:k < u.length:=(by omega);have m1:=Int.mul_ediv_add_emod (t * u.getD k 0) u.sum;rw [z0E (by rw [z6S];exact hlt),zaZ h hs k (by omega),zdm hlt,z0E hlt,z0J,z4s h (z4u hlt) (by omega),Int.toNat_natCast,Int.mul_add,Int.mul_add];omega
theorem z8r {L:List Int} {B:Int} (h:∀ x ∈ L,x<=B):L.sum<=L.length * B:=by
 induction L with
 | nil=>simp
 | cons y r ih =>
  have h1:=ih (fun x hx=>h x (List.mem_cons_of_mem _ hx));have h2:=h y List.mem_cons_self;rw [List.sum_cons,List.length_cons,Int.natCast_add,Int.add_mul];simp only [Int.natCast_one,Int.one_mul];omega
theorem zca {t:Int} {u:List Int} (hs:0 < u.sum) (i:Nat):0<=(cl t u i).o/\(cl t u i).o < u.sum:=⟨Int.emod_nonneg _ (by omega),Int.emod_lt_of_pos _ hs⟩
theorem z9n {t:Int} {u:List Int} (h:zt t u=true) (hs:0 < u.sum) {i:Nat} (ho:(cl t u i).o=0):cl t u i ∉ (zX t u).take (z20 t u):=by
 intro hm;obtain ⟨q,hq,hqe⟩:=List.getElem_of_mem hm;rw [List.length_take] at hq;rw [List.getElem_take] at hqe;have hlf:=z5c h hs;have hall:(zX t u).map (·.o)=((zX t u).take q).map (·.o) ++ ((zX t u).drop q).map (·.o):=(by rw [<-List.map_append,List.take_append_drop])
 have hsum:((zX t u).map (·.o)).sum=u.sum * z20 t u:=by
  rw [zc9];have:=zaZ h hs u.length (Nat.le_refl _);rw [<-z6S t u,z12,z6S,z12] at this;rw [this,hlf.1,Int.mul_sub,Int.mul_comm t]
 have h1:(((zX t u).take q).map (·.o)).sum<=(((zX t u).take q).map (·.o)).length * (u.sum - 1):=z8r (fun x hx=>by
  obtain ⟨c,hc,rfl⟩:=List.mem_map.1 hx;obtain ⟨j,_,rfl⟩:=z5s (List.mem_of_mem_take hc);have:=(zca (t:=t) hs j).2
  omega)
 have h2:(((zX t u).drop q).map (·.o)).sum<=(((zX t u).drop q).map (·.o)).length * 0:=z8r (fun x hx=>by
  obtain ⟨c,hc,rfl⟩:=List.mem_map.1 hx;obtain ⟨p,hp,hpe⟩:=List.getElem_of_mem hc;rw [List.length_drop] at hp;rw [List.getElem_drop] at hpe
  have hle:tB (zX t u)[q+p] (zX t u)[q]=false:=by
   rcases Nat.eq_zero_or_pos p with rfl | hpp
   ·exact z30.irrefl _
   ·exact List.pairwise_iff_getElem.1 (z7e t u) q (q+p) (by omega) (by omega) (by omega)
  rw [hqe,hpe,z7b] at hle
  omega)
 rw [hall,List.sum_append] at hsum;simp only [List.length_map,List.length_take] at h1;rw [Nat.min_eq_left (by omega)] at h1
 have h3:(q:Int) * (u.sum - 1) < u.sum * z20 t u:=by
  have e1:(q:Int) * (u.sum - 1)<=(q:Int) * u.sum:=Int.mul_le_mul_of_nonneg_left (by omega) (by omega);have e2:(q:Int) * u.sum < (z20 t u:Int) * u.sum:=Int.mul_lt_mul_of_pos_right (by omega) hs;rw [Int.mul_comm u.sum];omega
 omega
theorem z4e {t:Int} {l:List Int} (h1:zt t l=true) (hs:l.sum ≠ 0) {i:Nat} (hi:i < l.length) (hz:l.getD i 0=0):(zo t l).getD i 0=0:=by
 have hu:wts l=l:=(by rw [wts,if_neg hs]);have hp:=z4t (z09 h1).2.2 (show 0 < l.length by omega);rw [hu] at hp;have:=z9n (t:=t) h1 hp (i:=i) (by show t * l.getD i 0 % l.sum=0;rw [hz];simp);rw [z4T h1 hi,hu,if_neg this,hz];simp
theorem zcb {t:Int} {l:List Int} (h1:zt t l=true) (hs:l.sum ≠ 0) {i:Nat} (hi:i < l.length):(zo t l).getD i 0=z5o t l i\/(zo t l).getD i 0=z5o t l i+1:=by
 have hu:wts l=l:=(by rw [wts,if_neg hs]);rw [z4T h1 hi,hu,z4s h1 (z4u hi) hs,Int.toNat_natCast]
 split <;> omega
theorem zbp {t:Int} {l:List Int} (h1:zt t l=true) (hs:t < l.sum) {i:Nat} (hi:i < l.length):0<=(zo t l).getD i 0/\(zo t l).getD i 0<=l.getD i 0:=by
 obtain ⟨ht,_,hw⟩:=z09 h1;have hwi:=z2Y hw hi;have hsm:=z1y (t:=t) (l:=l) i (by rw [z17 h1];exact hi);refine ⟨hsm.1,?_⟩;by_cases hz:l.getD i 0=0
 ·rw [z4e h1 (by omega) hi hz];omega
 ·have hlt:t * l.getD i 0 / l.sum < l.getD i 0:=by
   apply Int.ediv_lt_of_lt_mul (by omega);rw [Int.mul_comm (l.getD i 0)];exact Int.mul_lt_mul_of_pos_right hs (by omega)
  rcases zcb h1 (show l.sum ≠ 0 by omega) hi with h | h
  ·rw [h,z4s h1 (z4u hi) (by omega),Int.toNat_natCast];omega
  ·rw [h,z4s h1 (z4u hi) (by omega),Int.toNat_natCast];omega
end
section
open Go.RowKit
def z0K (l:List Int) (c m:Nat):List Int:=(l.drop c).take m
theorem z1Q {l:List Int} {c m:Nat} (h:c+m<=l.length):(z0K l c m).length=m:=by unfold z0K;rw [List.length_take,List.length_drop];omega
theorem z6T {l:List Int} {c m k:Nat} (_:c+m<=l.length) (hk:k < m):(z0K l c m).getD k 0=l.getD (c+k) 0:=by
 unfold z0K;simp [List.getD,List.getElem?_take_of_lt hk,List.getElem?_drop]
theorem z6U {l:List Int} {c m:Nat} {x:Int} (h:x ∈ z0K l c m):x ∈ l:=List.mem_of_mem_drop (List.mem_of_mem_take h)
def z2P (l:List Int) (c:Nat) (more:List Int):Nat->List Int
 | 0=>l
 | k+1=>(z2P l c more k).set (c+k) (l.getD (c+k) 0+more.getD k 0)
theorem z3X (l:List Int) (c:Nat) (more:List Int):∀ k,(z2P l c more k).length=l.length
 | 0=>rfl
 | k+1=>by rw [z2P,List.length_set,z3X l c more k]
theorem z5Z (l:List Int) (c:Nat) (more:List Int) {i:Nat}:∀ k,(∀ j,j < k->c+j ≠ i)->(z2P l c more k).getD i 0=l.getD i 0
 | 0,_=>rfl
 | k+1,h=>by
  rw [z2P];simp only [List.getD,List.getElem?_set_ne (h k (by omega))];exact z5Z l c more k (fun j hj=>h j (by omega))
theorem z9q (l:List Int) (c:Nat) (more:List Int) {j:Nat}:∀ k,j < k->c+k<=l.length->(z2P l c more k).getD (c+j) 0=l.getD (c+j) 0+more.getD j 0
 | k+1,h,hl=>by
  rw [z2P];by_cases e:j=k
  ·subst e;have:c+j < (z2P l c more j).length:=(by rw [z3X];omega);simp [List.getD,this]
  ·have:=z9q l c more (j:=j) k (by omega) (by omega);simp only [List.getD,List.getElem?_set_ne (show c+k ≠ c+j by omega)];exact this
def z14 (l:List Int) (c m:Nat) (gap need:Int):Int:=need - ((z0K l c m).sum+gap * ((m:Int) - 1))
def z3h (l:List Int) (c m:Nat) (gap need:Int):List Int:=if z14 l c m gap need<=0 then l else z2P l c (zo (z14 l c m gap need) (z0K l c m)) m
theorem z8s (l:List Int) (c m:Nat) (gap need:Int):(z3h l c m gap need).length=l.length:=by unfold z3h;split;rfl;exact z3X _ _ _ _
def UpB (l:List Int) (B:Int):Prop:=∀ i,i < l.length->0<=l.getD i 0/\l.getD i 0<=B
theorem UpB.mem {l:List Int} {B:Int} (h:UpB l B) {x:Int} (hx:x ∈ l):0<=x/\x<=B:=by
 obtain ⟨i,hi,rfl⟩:=List.mem_iff_getElem.1 hx;have:=h i hi
 simpa [List.getD,hi] using this
theorem z4v:∀ {l:List Int} {B:Int},(∀ x ∈ l,0<=x/\x<=B)->0<=l.sum/\l.sum<=l.length * B
 | [],_,_=>by simp
 | a :: l,B,h=>by
  have h1:=h a (by simp);have h2:=z4v (l:=l) (B:=B) (fun x hx=>h x (by simp [hx]));rw [List.sum_cons,List.length_cons,show ((l.length+1:Nat):Int) * B=l.length * B+B by rw [show ((l.length+1:Nat):Int)=(l.length:Int)+1 by omega,Int.add_mul,Int.one_mul]];omega
theorem z7f:∀ {l:List Int} {x:Int},(∀ y ∈ l,0<=y)->x ∈ l->x<=l.sum
 | a :: l,x,h,hx=>by
  have h1:=h a (by simp);rw [List.sum_cons]
  rcases List.mem_cons.1 hx with rfl | hx
  ·have:0<=l.sum:=by
    clear hx h1
    induction l with
    | nil=>simp
    | cons b l ih =>
     have hb:=h b (by simp);have:=ih (fun y hy=>h y (by rcases List.mem_cons.1 hy with rfl | hy;exact List.mem_cons_self;exact List.mem_cons_of_mem _ (List.mem_cons_of_mem _ hy)));rw [List.sum_cons];omega
   omega
  ·have:=z7f (fun y hy=>h y (List.mem_cons_of_mem _ hy)) hx;omega
theorem zb1 {l:List Int} {c m:Nat} {gap need:Int} (hb:UpB l 50000) (hc:c+m<=l.length) (hm:1<=m/\m<=4) (hg:0<=gap/\gap<=3) (hn:need<=30) (hl:0 < z14 l c m gap need) :
  zt (z14 l c m gap need) (z0K l c m)=true/\z14 l c m gap need<=30:=by
 have hs:=(z4v (fun x (hx:x ∈ z0K l c m)=>hb.mem (z6U hx))).1;have hgm:0<=gap * ((m:Int) - 1):=Int.mul_nonneg hg.1 (by omega);have h30:z14 l c m gap need<=30:=(by unfold z14;omega);refine ⟨?_,h30⟩;simp only [zt,wtB,Bool.and_eq_true,decide_eq_true_eq,List.all_eq_true];refine ⟨⟨by omega,by rw [z1Q hc];omega⟩,fun x hx=>?_⟩;have:=hb.mem (z6U hx);omega
theorem zcg {l:List Int} {B:Int} {c m:Nat} {gap need:Int} (hb:UpB l B) (hB:B+30<=50000) (hc:c+m<=l.length) (hm:1<=m/\m<=4) (hg:0<=gap/\gap<=3) (hn:need<=30):UpB (z3h l c m gap need) (B+30):=by
 intro i hi;rw [z8s] at hi;have hbi:=hb i hi;unfold z3h
 split
 ·omega
 ·rename_i hl
  obtain ⟨hok,h30⟩:=zb1 (fun j hj=>⟨(hb j hj).1,by have:=(hb j hj).2;omega⟩) hc hm hg hn (by omega:0 < z14 l c m gap need);have hsl:=z17 hok;rw [z1Q hc] at hsl;by_cases hin:c<=i/\i < c+m
  ·obtain ⟨j,rfl⟩:∃ j,i=c+j:=⟨i - c,by omega⟩;rw [z9q l c _ m (by omega) (by omega)];have h1:=z1y (t:=z14 l c m gap need) (l:=z0K l c m) j (by omega)
   have h2:(zo (z14 l c m gap need) (z0K l c m)).getD j 0<=30:=by
    have hsum:=z2C hok (by rw [z1Q hc];omega)
    have hall:∀ x ∈ zo (z14 l c m gap need) (z0K l c m),0<=x:=fun x hx=>by
     obtain ⟨k,hk,rfl⟩:=List.mem_iff_getElem.1 hx;have:=(z1y (t:=z14 l c m gap need) (l:=z0K l c m) k hk).1
     simpa [List.getD,hk] using this
    have hle:(zo (z14 l c m gap need) (z0K l c m)).getD j 0<=(zo (z14 l c m gap need) (z0K l c m)).sum:=by
     have hmem:(zo (z14 l c m gap need) (z0K l c m)).getD j 0 ∈ zo (z14 l c m gap need) (z0K l c m):=by
      have e:(zo (z14 l c m gap need) (z0K l c m)).getD j 0=(zo (z14 l c m gap need) (z0K l c m))[j]'(by omega):=(by simp [List.getD,show j < (zo (z14 l c m gap need) (z0K l c m)).length by omega]);rw [e];exact List.getElem_mem _
     exact z7f hall hmem
    omega
   omega
  ·rw [z5Z l c _ m (fun j hj e=>hin ⟨by omega,by omega⟩)];omega
def zh (P:Nat->Bool) (n:Nat):List Nat:=(List.range n).filter P
def zP (l:List Int) (P:Nat->Bool) (n:Nat):List Int:=(zh P n).map (fun i=>l.getD i 0)
theorem z1n (l:List Int) (P:Nat->Bool) (n:Nat):(zP l P n).length=(zh P n).length:=by simp [zP]
theorem z6b (P:Nat->Bool) (n:Nat):zh P (n+1)=zh P n ++ if P n=true then [n] else []:=by
 unfold zh;rw [List.range_succ,List.filter_append]
 congr 1
 by_cases h:P n=true
 ·simp [h]
 ·simp [h]
theorem z2o {P:Nat->Bool} {n p:Nat} (h:p < (zh P n).length):(zh P n)[p] < n/\P (zh P n)[p]=true:=by
 have:=List.getElem_mem h;unfold zh at this;rw [List.mem_filter,List.mem_range] at this;exact this
theorem z2j {P:Nat->Bool} {n p q:Nat} (hp:p < (zh P n).length) (hq:q < (zh P n).length) (h:p < q):(zh P n)[p] < (zh P n)[q] :=
 List.pairwise_iff_getElem.1 (List.Pairwise.filter P List.pairwise_lt_range) p q hp hq h
theorem z2L {l:List Int} {P:Nat->Bool} {n p:Nat} (h:p < (zh P n).length):(zP l P n).getD p 0=l.getD (zh P n)[p] 0:=by
 simp [zP,List.getD,h]
theorem z3I {l:List Int} {P:Nat->Bool}:∀ n,n<=l.length->(∀ i,i < n->P i=false->l.getD i 0=0)->(zP l P n).sum=zx l n
 | 0,_,_=>by simp [zP,zh,zx]
 | n+1,hn,hz=>by
  have ih:=z3I n (by omega) (fun i hi=>hz i (by omega))
  have e:zP l P (n+1)=zP l P n ++ if P n=true then [l.getD n 0] else []:=by
   unfold zP;rw [z6b,List.map_append]
   congr 1
   split <;> rfl
  rw [e,List.sum_append,ih,z0E (by omega)]
  cases hP:P n with
  | true=>simp
  | false=>rw [hz n (by omega) hP];simp
theorem z9V:∀ {a b:List Int},a.length=b.length->(∀ i,i < a.length->a.getD i 0<=b.getD i 0)->∀ p,p < a.length->a.getD p 0 < b.getD p 0->a.sum < b.sum
 | [],_,_,_,p,hp,_=>absurd hp (Nat.not_lt_zero _)
 | _ :: _,[],h,_,_,_,_=>absurd h (by simp)
 | x :: a,y :: b,h,hle,p,hp,hlt=>by
  have hab:a.length=b.length:=(by simpa using h);have h0:x<=y:=(by have:=hle 0 (by simp);simpa using this);have hr:∀ i,i < a.length->a.getD i 0<=b.getD i 0:=fun i hi=>by have:=hle (i+1) (by simpa using hi);simpa using this
  rw [List.sum_cons,List.sum_cons]
  cases p with
  | zero =>
   have h1:x < y:=(by simpa using hlt)
   have h2:a.sum<=b.sum:=by
    clear hlt hp hle h h0 h1
    induction a generalizing b with
    | nil=>cases b with
     | nil=>exact Int.le_refl _
     | cons _ _=>simp at hab
    | cons u a ih=>cases b with
     | nil=>simp at hab
     | cons v b =>
      have h3:u<=v:=(by have:=hr 0 (by simp);simpa using this);have:=ih (b:=b) (by simpa using hab) (fun i hi=>by have:=hr (i+1) (by simpa using hi);simpa using this);rw [List.sum_cons,List.sum_cons];omega
   omega
  | succ p =>
   have:=z9V hab hr p (by simpa using hp) (by simpa using hlt);omega
theorem z8L {a b:List Int} (hl:a.length=b.length) (hs:a.sum=b.sum) {p:Nat} (hp:p < a.length) (h:a.getD p 0 < b.getD p 0):∃ q,q < a.length/\b.getD q 0 < a.getD q 0:=by
 apply Classical.byContradiction;intro hn;have:=z9V hl (fun i hi=>Int.not_lt.1 (fun hlt=>hn ⟨i,hi,hlt⟩)) p hp h;omega
theorem z9W {l:List Int} (h:l.sum ≠ 0):wts l=l:=by unfold wts;rw [if_neg h]
theorem z8M {t:Int} {l:List Int} {P:Nat->Bool} (hok:zt t l=true) (hz:∀ i,i < l.length->P i=false->l.getD i 0=0) (hs:l.sum ≠ 0) :
  zt t (zP l P l.length)=true/\zo t (zP l P l.length)=zP (zo t l) P l.length:=by
 obtain ⟨ht,hlen,hw⟩:=z09 hok;have hsum:(zP l P l.length).sum=l.sum:=(by rw [z3I l.length (Nat.le_refl _) hz,z12]);have hs':(zP l P l.length).sum ≠ 0:=(by rw [hsum];exact hs);have hnl:(zh P l.length).length<=l.length:=(by unfold zh;have:=List.length_filter_le P (List.range l.length);simpa using this)
 have hok':zt t (zP l P l.length)=true:=by
  simp only [zt,Bool.and_eq_true,decide_eq_true_eq,List.all_eq_true];refine ⟨⟨by simp only [wtB,decide_eq_true_eq];exact ht,by rw [z1n];omega⟩,fun x hx=>?_⟩;unfold zP at hx;obtain ⟨i,hi,rfl⟩:=List.mem_map.1 hx;unfold zh at hi;have hil:=List.mem_range.1 (List.mem_filter.1 hi).1;rw [show l.getD i 0=l[i] by simp [List.getD,hil]];exact List.all_eq_true.1 hw _ (List.getElem_mem hil)
 refine ⟨hok',?_⟩
 have hpos:0 < l.length:=by
  cases l with
  | nil=>simp at hs
  | cons _ _=>simp
 have hpos':0 < (zP l P l.length).length:=by
  cases h:zP l P l.length with
  | nil=>rw [h] at hs';simp at hs'
  | cons _ _=>simp
 have hL:=z17 hok;have hL':=z17 hok'
 have hsh:(zP (zo t l) P l.length).sum=(zo t l).sum:=by
  have:=z3I (l:=zo t l) (P:=P) l.length (by omega) (fun i hi hP=>z4e hok hs hi (hz i hi hP));rw [this,<-hL,z12]
 have hss:(zo t (zP l P l.length)).sum=(zP (zo t l) P l.length).sum:=(by rw [hsh,z2C hok hpos,z2C hok' hpos']);have hll:(zo t (zP l P l.length)).length=(zP (zo t l) P l.length).length:=(by rw [hL',z1n,z1n]);have hw1:=z9W hs;have hw2:=z9W hs'
 -- the two orders are one
 have hord:∀ p q,(hp:p < (zh P l.length).length)->(hq:q < (zh P l.length).length)->tB (cl t (zP l P l.length) p) (cl t (zP l P l.length) q)=tB (cl t l (zh P l.length)[p]) (cl t l (zh P l.length)[q]):=by
  intro p q hp hq;rw [Bool.eq_iff_iff,z4C,z4C];simp only [cl,hsum,z2L hp,z2L hq]
  have hm:((p:Int) < (q:Int)) ↔ (((zh P l.length)[p]:Nat):Int) < (((zh P l.length)[q]:Nat):Int):=by
   constructor
   ·intro h;have:=z2j hp hq (by omega);omega
   ·intro h
    rcases Nat.lt_trichotomy p q with h1 | h1 | h1
    ·omega
    ·subst h1;omega
    ·have:=z2j hq hp h1;omega
  have he:((p:Int)=(q:Int)) ↔ (((zh P l.length)[p]:Nat):Int)=(((zh P l.length)[q]:Nat):Int):=by
   constructor
   ·intro h;have:p=q:=by omega
    subst this;rfl
   ·intro h
    rcases Nat.lt_trichotomy p q with h1 | h1 | h1
    ·have:=z2j hp hq h1;omega
    ·omega
    ·have:=z2j hq hp h1;omega
  rw [hm,he]
 have hA:∀ p,(hp:p < (zh P l.length).length)->(zo t (zP l P l.length)).getD p 0=t * l.getD (zh P l.length)[p] 0 / l.sum+if cl t (zP l P l.length) p ∈ (zX t (zP l P l.length)).take (z20 t (zP l P l.length)) then 1 else 0:=by
  intro p hp;rw [z4T hok' (by rw [z1n];exact hp),hw2,hsum,z2L hp]
 have hB:∀ p,(hp:p < (zh P l.length).length)->(zP (zo t l) P l.length).getD p 0=t * l.getD (zh P l.length)[p] 0 / l.sum+if cl t l (zh P l.length)[p] ∈ (zX t l).take (z20 t l) then 1 else 0:=by
  intro p hp;rw [z2L hp,z4T hok (z2o hp).1,hw1]
 -- one that got more here and one that got more there cannot both be
 have hno:∀ p q,(hp:p < (zh P l.length).length)->(hq:q < (zh P l.length).length)->(zo t (zP l P l.length)).getD p 0 < (zP (zo t l) P l.length).getD p 0->(zP (zo t l) P l.length).getD q 0 < (zo t (zP l P l.length)).getD q 0->False:=by
  intro p q hp hq h1 h2;rw [hA p hp,hB p hp] at h1;rw [hA q hq,hB q hq] at h2;have hpl:p < (zP l P l.length).length:=(by rw [z1n];exact hp);have hql:q < (zP l P l.length).length:=(by rw [z1n];exact hq);by_cases a1:cl t (zP l P l.length) p ∈ (zX t (zP l P l.length)).take (z20 t (zP l P l.length))
  ·rw [if_pos a1] at h1;split at h1 <;> omega
  by_cases a2:cl t l (zh P l.length)[q] ∈ (zX t l).take (z20 t l)
  ·rw [if_pos a2] at h2;split at h2 <;> omega
  by_cases b1:cl t l (zh P l.length)[p] ∈ (zX t l).take (z20 t l)
  case neg=>rw [if_neg a1,if_neg b1] at h1;omega
  by_cases b2:cl t (zP l P l.length) q ∈ (zX t (zP l P l.length)).take (z20 t (zP l P l.length))
  case neg=>rw [if_neg a2,if_neg b2] at h2;omega
  have hpq:p ≠ q:=fun e=>by subst e;exact a1 b2
  have htot:tB (cl t l (zh P l.length)[p]) (cl t l (zh P l.length)[q])=true\/tB (cl t l (zh P l.length)[q]) (cl t l (zh P l.length)[p])=true:=by
   rw [z4C,z4C];simp only [cl]
   have:(zh P l.length)[p] ≠ (zh P l.length)[q]:=by
    rcases Nat.lt_or_gt_of_ne hpq with h | h
    ·have:=z2j hp hq h;omega
    ·have:=z2j hq hp h;omega
   omega
  rcases htot with h | h
  ·rw [<-hord p q hp hq] at h;exact a1 (z8q hpl h b2)
  ·exact a2 (z8q (z2o hq).1 h b1)
 apply List.ext_getElem hll;intro p h1 h2;have hp:p < (zh P l.length).length:=(by rw [hL',z1n] at h1;exact h1);have e1:(zo t (zP l P l.length))[p]=(zo t (zP l P l.length)).getD p 0:=(by simp [List.getD,h1]);have e2:(zP (zo t l) P l.length)[p]=(zP (zo t l) P l.length).getD p 0:=(by simp [List.getD,h2]);rw [e1,e2];apply Classical.byContradiction;intro hne
 rcases Int.lt_or_gt_of_ne hne with h | h
 ·obtain ⟨q,hq,hlt⟩:=z8L hll hss h1 h;exact hno p q hp (by rw [hL',z1n] at hq;exact hq) h hlt
 ·obtain ⟨q,hq,hlt⟩:=z8L hll.symm hss.symm h2 h;have hq':q < (zh P l.length).length:=(by rw [z1n] at hq;exact hq);exact hno q p hq' hp hlt h
def z0m (t:Int) (l:List Int):List Int:=if zt t l=true then (if l.sum<=t then l else zo t l) else []
def z23 (t:Int) (l:List Int):Int:=if zt t l=true then (if l.sum<=t then t - l.sum else 0) else 0
theorem z33 {t:Int} {l:List Int} (h:zt t l=true) (hs:l.sum<=t):z0m t l=l/\z23 t l=t - l.sum:=by simp [z0m,z23,h,hs]
theorem z2p {t:Int} {l:List Int} (h:zt t l=true) (hs:¬ l.sum<=t):z0m t l=zo t l/\z23 t l=0:=by simp [z0m,z23,h,hs]
theorem zbK {x:Value} {a b:Int} (h:a=b):Ending.returned (.tuple #[x,int i64 a])=.returned (.tuple #[x,int i64 b]):=by rw [h]
theorem zcO {t:Int} {l:List Int} {P:Nat->Bool} (hok:zt t l=true):zt t (zP l P l.length)=true:=by
 obtain ⟨ht,hlen,hw⟩:=z09 hok;have hnl:(zh P l.length).length<=l.length:=(by unfold zh;have:=List.length_filter_le P (List.range l.length);simpa using this);simp only [zt,Bool.and_eq_true,decide_eq_true_eq,List.all_eq_true];refine ⟨⟨by simp only [wtB,decide_eq_true_eq];exact ht,by rw [z1n];omega⟩,fun x hx=>?_⟩;unfold zP at hx;obtain ⟨i,hi,rfl⟩:=List.mem_map.1 hx;unfold zh at hi;have hil:=List.mem_range.1 (List.mem_filter.1 hi).1;rw [show l.getD i 0=l[i] by simp [List.getD,hil]];exact List.all_eq_true.1 hw _ (List.getElem_mem hil)
theorem zdN {t:Int} {l:List Int} {P:Nat->Bool} (hok:zt t l=true) (hz:∀ i,i < l.length->P i=false->l.getD i 0=0) :
  z0m t (zP l P l.length)=zP (z0m t l) P l.length/\z23 t (zP l P l.length)=z23 t l:=by
 have hsum:(zP l P l.length).sum=l.sum:=(by rw [z3I l.length (Nat.le_refl _) hz,z12]);have hok':=zcO (P:=P) hok;by_cases hs:l.sum<=t
 ·rw [(z33 hok hs).1,(z33 hok hs).2,(z33 hok' (by rw [hsum];exact hs)).1,(z33 hok' (by rw [hsum];exact hs)).2,hsum];exact ⟨rfl,rfl⟩
 ·have ht:=(z09 hok).1.1;rw [(z2p hok hs).1,(z2p hok hs).2,(z2p hok' (by rw [hsum];exact hs)).1,(z2p hok' (by rw [hsum];exact hs)).2];exact ⟨(z8M hok hz (by omega)).2,rfl⟩
def z0U (P:Nat->Bool) (n:Nat):List Int:=(List.range n).map (fun i=>if P i=true then 1 else 0)
theorem z1o (P:Nat->Bool) (n:Nat):(z0U P n).length=n:=by simp [z0U]
theorem z4K {P:Nat->Bool} {n i:Nat} (h:i < n):(z0U P n).getD i 0=if P i=true then 1 else 0:=by simp [z0U,List.getD,h]
theorem z6s {t:Int} (P:Nat->Bool) {n:Nat} (ht:0<=t/\t<=100000) (hn:n<=100):zt t (z0U P n)=true:=by
 simp only [zt,Bool.and_eq_true,decide_eq_true_eq,List.all_eq_true];refine ⟨⟨by simp only [wtB,decide_eq_true_eq];exact ht,by rw [z1o];exact hn⟩,fun x hx=>?_⟩;unfold z0U at hx;obtain ⟨i,_,rfl⟩:=List.mem_map.1 hx;simp only [wtB,decide_eq_true_eq]
 split <;> omega
theorem z88 (P:Nat->Bool) (n:Nat):zP (z0U P n) P n=List.replicate (zh P n).length 1:=by
 apply List.ext_getElem (by simp [zP]);intro p h1 h2;have hp:p < (zh P n).length:=(by simpa [zP] using h1);have hg:=z2o hp;have e:(zP (z0U P n) P n)[p]=(zP (z0U P n) P n).getD p 0:=(by simp [List.getD,h1]);rw [e,z2L hp,z4K hg.1,if_pos hg.2];simp
theorem zdO (m:Nat):wts (List.replicate m (0:Int))=List.replicate m 1:=by
 unfold wts
 rw [if_pos (by induction m with
  | zero=>rfl
  | succ m ih=>rw [List.replicate_succ,List.sum_cons,ih];rfl)]
 simp
theorem zeS (m:Nat):wts (List.replicate m (1:Int))=List.replicate m 1:=by
 unfold wts
 split
 ·simp
 ·rfl
theorem z7y {t:Int} (P:Nat->Bool) {n:Nat} (ht:0<=t/\t<=100000) (hn:n<=100) (h0:0 < (zh P n).length) :
  zo t (List.replicate (zh P n).length 0)=zP (zo t (z0U P n)) P n:=by
 have hok:=z6s P (n:=n) ht hn
 have hz:∀ i,i < (z0U P n).length->P i=false->(z0U P n).getD i 0=0:=fun i hi hP=>by
  rw [z1o] at hi;rw [z4K hi,if_neg (by rw [hP];simp)]
 have hnl:(zh P n).length<=n:=(by unfold zh;have:=List.length_filter_le P (List.range n);simpa using this)
 have hsum:(z0U P n).sum=((zh P n).length:Int):=by
  have:=z3I (l:=z0U P n) (P:=P) (z0U P n).length (Nat.le_refl _) hz;rw [z12,z1o,z88,z4A] at this;exact this.symm
 have h1:=(z8M hok hz (by rw [hsum];omega)).2;rw [z1o,z88] at h1;rw [<-h1]
 have hok0:zt t (List.replicate (zh P n).length 0)=true:=by
  simp only [zt,Bool.and_eq_true,decide_eq_true_eq,List.all_eq_true];exact ⟨⟨by simp only [wtB,decide_eq_true_eq];exact ht,by simp;omega⟩,fun x hx=>by rw [List.eq_of_mem_replicate hx];rfl⟩
 have hok1:zt t (List.replicate (zh P n).length 1)=true:=by
  simp only [zt,Bool.and_eq_true,decide_eq_true_eq,List.all_eq_true];exact ⟨⟨by simp only [wtB,decide_eq_true_eq];exact ht,by simp;omega⟩,fun x hx=>by rw [List.eq_of_mem_replicate hx];rfl⟩
 rw [z29 hok0 (by rw [<-List.length_pos_iff];simpa using h0),z29 hok1 (by rw [<-List.length_pos_iff];simpa using h0),zdO,zeS]
def z1d (a b:List Int):List Int:=List.zipWith (·+·) a b
def z0o (l:List Int) (js:List Nat) (g:List Int):Nat->List Int
 | 0=>l
 | k+1=>(z0o l js g k).set (js.getD k 0) ((z0o l js g k).getD (js.getD k 0) 0+g.getD k 0)
theorem z3p (l:List Int) (js:List Nat) (g:List Int):∀ k,(z0o l js g k).length=l.length
 | 0=>rfl
 | k+1=>by rw [z0o,List.length_set];exact z3p l js g k
theorem z5C (l:List Int) (js:List Nat) (g:List Int) {i:Nat}:∀ k,(∀ p,p < k->js.getD p 0 ≠ i)->(z0o l js g k).getD i 0=l.getD i 0
 | 0,_=>rfl
 | k+1,h=>by
  rw [z0o];simp only [List.getD,List.getElem?_set_ne (show js[k]?.getD 0 ≠ i from h k (by omega))];exact z5C l js g k (fun p hp=>h p (by omega))
theorem z8N {l:List Int} {P:Nat->Bool} {n:Nat} (hn:n<=l.length) (g:List Int) {p:Nat}:∀ k,k<=(zh P n).length->p < k->(z0o l (zh P n) g k).getD ((zh P n).getD p 0) 0=l.getD ((zh P n).getD p 0) 0+g.getD p 0
 | k+1,hk,hp=>by
  have hkl:k < (zh P n).length:=(by omega);have ek:(zh P n).getD k 0=(zh P n)[k]:=(by simp [List.getD,hkl]);have hpl:p < (zh P n).length:=(by omega);have ep:(zh P n).getD p 0=(zh P n)[p]:=(by simp [List.getD,hpl]);rw [z0o];by_cases e:p=k
  ·subst e;have hlt:(zh P n).getD p 0 < (z0o l (zh P n) g p).length:=(by rw [z3p,ep];have:=(z2o hpl).1;omega)
   have ho:=z5C l (zh P n) g (i:=(zh P n).getD p 0) p (fun q hq=>by
    have hql:q < (zh P n).length:=(by omega);have:=z2j hql hpl hq;rw [ep,show (zh P n).getD q 0=(zh P n)[q] by simp [List.getD,hql]]
    omega)
   rw [ho];generalize (zh P n).getD p 0=j at hlt;simp only [List.getD,List.getElem?_set_self hlt,Option.getD_some]
  ·have hne:(zh P n).getD k 0 ≠ (zh P n).getD p 0:=by
    have:=z2j hpl hkl (by omega);rw [ek,ep];omega
   have ih:=z8N (P:=P) hn g (p:=p) k (by omega) (by omega);rw [<-ih];generalize (zh P n).getD k 0=j at hne;generalize (zh P n).getD p 0=i at hne;simp only [List.getD,List.getElem?_set_ne hne]
theorem z9X {l more:List Int} {P:Nat->Bool} (hl:more.length=l.length) (hz:∀ i,i < l.length->P i=false->more.getD i 0=0):z0o l (zh P l.length) (zP more P l.length) (zh P l.length).length=z1d l more:=by
 have hlen:(z0o l (zh P l.length) (zP more P l.length) (zh P l.length).length).length=(z1d l more).length:=(by rw [z3p,z1d,List.length_zipWith,hl];omega);apply List.ext_getElem hlen;intro i h1 h2;have hi:i < l.length:=(by rw [z3p] at h1;exact h1);have hm:i < more.length:=(by omega);have e1:(z0o l (zh P l.length) (zP more P l.length) (zh P l.length).length)[i]=(z0o l (zh P l.length) (zP more P l.length) (zh P l.length).length).getD i 0:=(by simp [List.getD,h1]);have e2:(z1d l more)[i]=l.getD i 0+more.getD i 0:=(by simp [z1d,List.getD,hi,hm]);rw [e1,e2]
 cases hP:P i with
 | false =>
  rw [hz i hi hP,z5C l _ _ _ (fun p hp e=>by
   have:=(z2o hp).2;rw [show (zh P l.length).getD p 0=(zh P l.length)[p] by simp [List.getD,hp]] at e;rw [e,hP] at this
   cases this)]
  omega
 | true =>
  have hmem:i ∈ zh P l.length:=(by unfold zh;rw [List.mem_filter];exact ⟨List.mem_range.2 hi,hP⟩);obtain ⟨p,hp,hpe⟩:=List.getElem_of_mem hmem;have hd:(zh P l.length).getD p 0=i:=(by simp [List.getD,hp,hpe]);have:=z8N (l:=l) (P:=P) (n:=l.length) (Nat.le_refl _) (zP more P l.length) (p:=p) (zh P l.length).length (Nat.le_refl _) hp;rw [hd,z2L hp,hpe] at this;exact this
end
section
open Go.RowKit Go.Shelf Go.Lib Go.Sort
theorem zaJ (a b:Int) (w:World):Calls Tryz.prog 98 #[int i64 a,int i64 b] w fun e w'=>e=.returned (int i64 (if a < b then -1 else if b < a then 1 else 0))/\w'=w:=by
 have hn:∀ (x:Int) (W:World),Calls Tryz.prog 102 #[int i64 x] W fun e w'=>e=.returned (.bool false)/\w'=W:=fun x W=>by
  have hx:(x != x)=false:=(by simp);go_enter Tryz.func102,Tryz.ntmps102;go_wp2;go_ret;exact ⟨rfl,rfl⟩
 by_cases h1:a < b
 ·rw [if_pos h1];go_enter Tryz.func98,Tryz.ntmps98;go_wp2_with (go_at_call 102;refine (hn _ _).mono ?_;rintro e w' ⟨rfl,rfl⟩)
  go_ret;exact ⟨rfl,rfl⟩
 ·rw [if_neg h1];by_cases h2:b < a
  ·rw [if_pos h2];go_enter Tryz.func98,Tryz.ntmps98;go_wp2_with (go_at_call 102;refine (hn _ _).mono ?_;rintro e w' ⟨rfl,rfl⟩)
   go_ret;exact ⟨rfl,rfl⟩
  ·rw [if_neg h2];go_enter Tryz.func98,Tryz.ntmps98;go_wp2_with (go_at_call 102;refine (hn _ _).mono ?_;rintro e w' ⟨rfl,rfl⟩)
   go_ret;exact ⟨rfl,rfl⟩
theorem zdZ (x y:Cl) (W:World):Calls Tryz.prog 94 #[.agg #[int i64 x.p,int i64 x.w,int i64 x.o],.agg #[int i64 y.p,int i64 y.w,int i64 y.o]] W fun e w'=>e=.returned (int i64 (cfC x y))/\∃ q os',w'=grow (W.drewN q) os':=by
 have hcon:=fun W'=>zaJ y.o x.o W';have he:cfC x y=(if y.o < x.o then -1 else if x.o < y.o then 1 else 0):=rfl;rw [he];generalize (if y.o < x.o then (-1:Int) else if x.o < y.o then 1 else 0)=r at hcon;go_enter Tryz.func94,Tryz.ntmps94;go_wp2_with (go_at_call 98;refine (hcon _).mono ?_;rintro e w' ⟨rfl,rfl⟩)
 go_ret;exact ⟨rfl,0,_,by rw [alloc_eq_grow,alloc_eq_grow,grow_grow];rfl⟩
theorem zab (blk off size:Nat) (w:World):CmpLays Tryz.prog 94 #[] z0V 3 cfC blk off size w:=fun _ _ _ _ x y=>zdZ x y _
theorem egC:∀ args w,(callFunc 94 args).run Tryz.prog w=.ok (.enter 94 args) w:=enters_of Tryz.func94 (by kernel_rfl) rfl
theorem z5S (lt:Cl->Cl->Bool) (a:Nat):∀ (j:Nat) (d:Array Cl),(insInner lt a j d).size=d.size
 | 0,d=>by unfold insInner;rfl
 | j+1,d=>by
  unfold insInner
  split
  ·rw [z5S lt a j,size_swp]
  ·rfl
theorem z5T (lt:Cl->Cl->Bool) (a b:Nat):∀ (n i:Nat) (d:Array Cl),b - i=n->(insOuter lt a b i d).size=d.size
 | 0,i,d,hn=>by rw [insOuter_stop _ _ _ _ _ (by omega)]
 | n+1,i,d,hn=>by rw [insOuter_go _ _ _ _ _ (by omega),z5T lt a b n (i+1) _ (by omega),z5S]
theorem ze0 (d:Array Cl) (a b:Nat):(Sort.insertionSort (ltOf cfC) d a b).size=d.size:=z5T _ _ _ _ _ _ rfl
shelf_lay_g SlLaysF0.n20 Slsf 20 at Tryz 100 as insSC
theorem zf3 (blk off cap a b:Nat) (d0 d:Array Cl) (w0 w:World) (R:RowK z0V 3 w0 blk off d0) (hs:d0.size=d.size) (S:SWK z0V 3 w0 blk off d w) (hab:a<=b) (hb:b<=d.size) (hsz:d.size < 4611686018427387904) :
  Calls Tryz.prog 100 #[.slice (some ⟨blk,off,none⟩) d.size cap,int i64 a,int i64 b,.func (.func 94) #[] #[]] w fun e w' =>
   e=.returned (.tuple #[])/\SWK z0V 3 w0 blk off (Sort.insertionSort (ltOf cfC) d a b) w':=by
 have hbl:blk < w.heap.size:=Nat.lt_of_lt_of_le R.hblk S.le;refine (AnyQ.insertionSortCmpFunc insSC 3 Tryz.isAgg150 Tryz.sizeOf150 z0V z6P z6Q cfC 94 #[] blk off cap a b d w egC (zab blk off d.size w) (S.holds R.hblk R.hH (by omega)) hbl hab hb hsz).mono ?_;rintro e w' ⟨rfl,n,os,rfl⟩;exact ⟨rfl,S.on R.hblk n _ os (ze0 d a b)⟩
end
end Go.Proofs.YtggmjiddadjilalGreat
