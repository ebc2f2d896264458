/-
  PROVED HERE: what the program's sum and ShrOk answer of lists of numbers in memory; nothing that was in memory is turned. Also: 18 more texts of the same proof.
-/
import Derived.Test.YtggmjiddadjilahGreatE19
import Derived.Shelf.SlSortCmp.KitK
set_option maxRecDepth 1000000
set_option maxHeartbeats 40000000
namespace Go.Proofs.YtggmjiddadjilahGreat
section
open Go.RowKit
theorem z7M (v:Value) (l:List Int) (hl:l.length≤1000) (hw:l.all wtB=true) (w:World) (h:zA w v l) :
  Calls Tryz.prog 146 #[v] w fun e w'=>e=.returned (.int .i64 l.sum)∧w'=w:=by
 obtain ⟨a,cap,rfl,_⟩:=h.form;have H:=Hd h;have HW:=Hd (z4g hw);have HG:=Hd (fun i hi=>z2V (i:=i) hw hi);clear h hw;go_enter Tryz.func146,Tryz.ntmps146;go_wp2_with fail
 go_loop [3,8] (fun s i=>∃ k:Nat,k≤l.length∧i=.int .i64 k∧s=.int .i64 (zF l k)) (fun _ i=>l.length - (intOf i).toNat)
 case atStart=>exact ⟨0,Nat.zero_le _,rfl,by simp [zF]⟩
 case round =>
  obtain ⟨k,hk,rfl,rfl⟩:=hrel;by_cases hlt:k < l.length
  ·obtain ⟨b,off,cap',e',hc1,hc2,hbl,hx⟩:=H.out.get hlt;simp only [Value.slice.injEq,true_and] at e';obtain ⟨rfl,rfl⟩:=e';have hb1:=HW.out k hk;have hb2:=HG.out k hlt;have HS:=Hd (z1D hlt);generalize l.getD k 0=x at hx HS hb2;generalize zF l k=s at HS hb1;unfold maxLen at hc2;go_wp2
   go_round
   case rel=>exact ⟨k+1,by omega,by go_num,by rw [HS.out]⟩
   case measure=>simp [intOf];omega
  ·obtain rfl:k=l.length:=by omega
   have HE:=Hd (z1w l);go_wp2;go_ret;exact ⟨by rw [← HE.out];rfl,rfl⟩
theorem zgp (t:Int) (v:Value) (l:List Int) (w:World) (h:zA w v l) :
  Calls Tryz.prog 166 #[.int .i64 t,v] w fun e w'=>e=.returned (.bool (zB t l))∧w'=w:=by
 obtain ⟨a,cap,rfl,hlen⟩:=h.form;have H:=Hd h;clear h;have HC:=Hd (fun n=>zO n 0 100000);by_cases ht:wtB t=true
 ·by_cases hl:(100:Int) < (l.length:Int)
  ·have HF:Hid (zB t l=false):=(by show _=_;simp [zB];omega);go_enter Tryz.func166,Tryz.ntmps166;go_wp2_with fail
   refine (HC.out _ _).mono ?_;rintro e w1 ⟨rfl,rfl⟩;rw [z7R,ht];go_wp2;go_ret;exact ⟨zN HF.out.symm,rfl⟩
  ·go_enter Tryz.func166,Tryz.ntmps166;go_wp2_with fail
   refine (HC.out _ _).mono ?_;rintro e w1 ⟨rfl,rfl⟩;rw [z7R,ht];go_wp2_with fail
   go_loop [17] (fun i=>∃ k:Nat,k≤l.length∧i=.int .i64 k∧Hid ((l.take k).all wtB=true)) (fun i=>l.length - (intOf i).toNat)
   case atStart=>exact ⟨0,Nat.zero_le _,rfl,by simp [Hid]⟩
   case round =>
    obtain ⟨k,hk,rfl,HA⟩:=hrel;by_cases hlt:k < l.length
    ·obtain ⟨b,off,cap',e',hc1,hc2,hbl,hx⟩:=H.out.get hlt;simp only [Value.slice.injEq,true_and] at e';obtain ⟨rfl,rfl⟩:=e';unfold maxLen at hc2;by_cases hy:wtB (l.getD k 0)=true
     ·have HN:=Hd (zhk hlt HA.out hy);generalize l.getD k 0=x at hx hy;go_wp2_with fail
      refine (HC.out _ _).mono ?_;rintro e w1 ⟨rfl,rfl⟩;rw [z7R,hy];go_wp2
      go_round
      case rel=>exact ⟨k+1,by omega,by go_num,HN⟩
      case measure=>simp [intOf];omega
     ·have hy':=eq_false_of_ne_true hy;have HF:Hid (zB t l=false):=(by show _=_;simp only [zB,ziF hlt hy',Bool.and_false]);generalize l.getD k 0=x at hx hy';go_wp2_with fail
      refine (HC.out _ _).mono ?_;rintro e w1 ⟨rfl,rfl⟩;rw [z7R,hy'];go_wp2;go_ret;exact ⟨zN HF.out.symm,rfl⟩
    ·obtain rfl:k=l.length:=by omega
     have HF:Hid (zB t l=true):=(by have h1:=HA.out;rw [List.take_length] at h1;show _=_;simp only [zB,ht,h1,Bool.and_true,Bool.true_and,decide_eq_true_eq];omega);go_wp2;go_ret;exact ⟨zN HF.out.symm,rfl⟩
 ·have ht':=eq_false_of_ne_true ht;have HF:Hid (zB t l=false):=(by show _=_;simp only [zB,ht',Bool.false_and]);go_enter Tryz.func166,Tryz.ntmps166;go_wp2_with fail
  refine (HC.out _ _).mono ?_;rintro e w1 ⟨rfl,rfl⟩;rw [z7R,ht'];go_wp2;go_ret;exact ⟨zN HF.out.symm,rfl⟩
def z7n (t:Int) (l:List Int) (k:Int):Int:=if zB t l && inB k 0 (l.length - 1) && l.sum != 0 then t * l.getD k.toNat 0 / l.sum else 0
theorem z68 {t:Int} {l:List Int} {k:Int} (h1:zB t l=true) (h2:inB k 0 (l.length - 1)=true) (h3:l.sum ≠ 0):z7n t l k=t * l.getD k.toNat 0 / l.sum:=by
 rw [z7n,if_pos];simp [h1,h2,h3]
theorem z5E {t x:Int} (h1:0≤t∧t≤100000) (h2:0≤x∧x≤100000):0≤t * x∧t * x≤10000000000 :=
 ⟨Int.mul_nonneg h1.1 h2.1,Int.le_trans (Int.mul_le_mul h1.2 h2.2 h2.1 (by omega)) (by omega)⟩
end
section
open Go.RowKit Go.Shelf Go.Lib Go.Sort
structure Cl where
 p:Int
 w:Int
 o:Int
deriving Inhabited
def z1K (x:Cl):List Value:=[.int .i64 x.p,.int .i64 x.w,.int .i64 x.o]
def cfC (x y:Cl):Int:=if y.o < x.o then -1 else if x.o < y.o then 1 else 0
theorem z9e (x:Cl):(z1K x).length=3:=rfl
theorem z9f (x:Cl):∀ v ∈ z1K x,v.oneCell'=true:=fun v hv=>by simp [z1K] at hv;rcases hv with rfl | rfl | rfl <;> rfl
def wts (l:List Int):List Int:=if l.sum=0 then List.replicate l.length 1 else l
theorem z3w (l:List Int):(wts l).length=l.length:=by unfold wts;split <;> simp
theorem z6j:∀ n:Nat,(List.replicate n (1:Int)).sum=n
 | 0=>rfl
 | n+1=>by rw [List.replicate_succ,List.sum_cons,z6j n];omega
theorem z89 {l:List Int} (h:l.all wtB=true):(wts l).all wtB=true:=by
 unfold wts
 split
 ·rw [List.all_eq_true];intro x hx;rw [(List.mem_replicate.1 hx).2];rfl
 ·exact h
theorem z5h {l:List Int} (h:l.all wtB=true) (h0:0 < l.length):0 < (wts l).sum:=by
 unfold wts
 split
 ·rw [z6j];omega
 ·have:=(z2z h).1;omega
def cl (t:Int) (u:List Int) (i:Nat):Cl:=⟨i,t * u.getD i 0 / u.sum,t * u.getD i 0 % u.sum⟩
def clL (t:Int) (u:List Int):List Cl:=(List.range u.length).map (cl t u)
theorem z4J (t:Int) (u:List Int):(clL t u).length=u.length:=by simp [clL]
theorem zaB {t:Int} {u:List Int} {i:Nat} (h:i < u.length):(clL t u)[i]?=some (cl t u i):=by simp [clL,h]
theorem z8C {t:Int} {u:List Int} {i:Nat} (h:i < u.length):(clL t u).toArray[i]! = cl t u i:=by
 rw [getElem!_def,List.getElem?_toArray,zaB h]
def z9P (n:Nat):Array Value:=madeCells (Value.agg #[.int .i64 0,.int .i64 0,.int .i64 0]).cells (n * 3)
theorem z9Q (n:Nat):(z9P n).size=n * 3:=by rw [z9P,size_madeCells]
theorem zjG:(Tryz.prog.info? 195).map (fun i=>(i.zero,i.size,i.bytes))=some (some (Value.agg #[.int .i64 0,.int .i64 0,.int .i64 0]),3,24):=by kernel_rfl
theorem zjH (n:Nat) (hn:n≤1048576) (u:World):(Instr.makeSlice 192 (.int .i64 (n:Int)) (.int .i64 (n:Int))).run Tryz.prog u=.ok (.slice (some ⟨u.heap.size,0,none⟩) n n) (u.alloc (.cells (z9P n) 195)):=by
 obtain ⟨i0,hi,hz0,hz1,hz2⟩:=info_parts zjG;have h:=run_make (P:=Tryz.prog) u 192 195 i0 _ Tryz.underlying192 hi hz0 .i64 .i64 (n:Int) (n:Int) (by omega) (Int.le_refl _) (by rw [hz2];omega) (by omega);rw [hz1,Int.toNat_natCast] at h;exact h
def z7o (arr:Array Value) (L:Nat→Cl) (k:Nat):Prop:=∀ i,i < k→arr[i * 3]?=some (.int .i64 (L i).p)∧arr[i * 3+1]?=some (.int .i64 (L i).w)∧arr[i * 3+2]?=some (.int .i64 (L i).o)
theorem z7o.next {arr:Array Value} {L:Nat→Cl} {k n:Nat} (h:z7o arr L k) (hs:arr.size=n * 3) (hk:k < n) :
  z7o (((arr.setIfInBounds (k * 3) (.int .i64 (L k).p)).setIfInBounds (k * 3+1) (.int .i64 (L k).w)).setIfInBounds (k * 3+2) (.int .i64 (L k).o)) L (k+1):=by
 have eq:∀ (A:Array Value) (i:Nat) (v:Value),i < A.size→(A.setIfInBounds i v)[i]?=some v:=fun A i v hi=>by simp [hi]
 intro i hi
 rcases Nat.lt_or_eq_of_le (Nat.lt_succ_iff.1 hi) with hlt | rfl
 ·obtain ⟨h1,h2,h3⟩:=h i hlt;refine ⟨?_,?_,?_⟩
  ·rw [Array.getElem?_setIfInBounds_ne (by omega),Array.getElem?_setIfInBounds_ne (by omega),Array.getElem?_setIfInBounds_ne (by omega)];exact h1
  ·rw [Array.getElem?_setIfInBounds_ne (by omega),Array.getElem?_setIfInBounds_ne (by omega),Array.getElem?_setIfInBounds_ne (by omega)];exact h2
  ·rw [Array.getElem?_setIfInBounds_ne (by omega),Array.getElem?_setIfInBounds_ne (by omega),Array.getElem?_setIfInBounds_ne (by omega)];exact h3
 ·refine ⟨?_,?_,?_⟩
  ·rw [Array.getElem?_setIfInBounds_ne (by omega),Array.getElem?_setIfInBounds_ne (by omega)];exact eq _ _ _ (by omega)
  ·rw [Array.getElem?_setIfInBounds_ne (by omega)];exact eq _ _ _ (by rw [Array.size_setIfInBounds];omega)
  ·exact eq _ _ _ (by rw [Array.size_setIfInBounds,Array.size_setIfInBounds];omega)
theorem zcF {w:World} {g n:Nat} {arr:Array Value} {T:TypeId} {L:Nat→Cl} {d:Array Cl} (hg:w.heap[g]?=some (.cells arr T)) (ha:z7o arr L n) (hd:d.size=n) (hL:∀ i,i < n→d[i]! = L i):HoldsK z1K 3 w g 0 d:=by
 intro j hj;rw [size_flatK,hd] at hj;have hq:j / 3 < n:=(by omega);obtain ⟨h1,h2,h3⟩:=ha (j / 3) hq;refine ⟨?_,zM hg⟩;rw [Nat.zero_add,zf hg,get_flatK _ _ _ _ (by rw [hd];exact hj),hL _ hq];show arr[j]?=some ((z1K (L (j / 3)))[j % 3]!)
 rcases (by omega:j % 3=0∨j % 3=1∨j % 3=2) with e | e | e
 ·rw [e];rw [show j=j / 3 * 3 by omega];rw [Nat.mul_div_cancel _ (by omega)];exact h1
 ·rw [e,show arr[j]?=arr[j / 3 * 3+1]? from by congr 1;omega];exact h2
 ·rw [e,show arr[j]?=arr[j / 3 * 3+2]? from by congr 1;omega];exact h3
theorem z9R {w:World} {g:Nat} {arr:Array Value} {t:Int} {u:List Int} (hg:w.heap[g]?=some (.cells arr 195)) (ha:z7o arr (cl t u) u.length):RowK z1K 3 w g 0 (clL t u).toArray :=
 ⟨z9e,z9f,zcF hg ha (by simp [z4J]) (fun _ hi=>z8C hi),(bL hg)⟩
theorem z8a {a s:Int} (hs:0 < s):0≤a % s∧a % s < s:=⟨Int.emod_nonneg _ (by omega),Int.emod_lt_of_pos _ hs⟩
theorem zcG (t:Int) (v:Value) (l:List Int) (ht:0≤t∧t≤100000) (h0:0 < l.length) (hl:l.length≤100) (hw:l.all wtB=true) (w:World) (h:zA w v l) :
  Calls Tryz.prog 158 #[.int .i64 t,v] w fun e w'=>∃ g,e=.returned (.slice (some ⟨g,0,none⟩) l.length l.length)∧w.heap.size≤g∧RowK z1K 3 w' g 0 (clL t (wts l)).toArray∧Below w.heap.size w w':=by
 obtain ⟨a,cap,rfl,_⟩:=h.form;have H:=Hd h;clear h;have HS:=Hd (fun W=>z7M (.slice a l.length cap) l (by omega) hw W);have hmk:=zjH l.length (by omega);have hpos:=z5h hw h0;have hsb:=z2z (z89 hw);rw [z3w] at hsb;have HWT:=Hd (z89 hw);have HLN:=Hd (z3w l);by_cases hz:l.sum=0
 ·have hwt:wts l=List.replicate l.length 1:=(by rw [wts,if_pos hz]);have hsum:(wts l).sum=l.length:=(by rw [hwt,z6j]);have HZ:=Hd hz;have HSM:=Hd hsum;have HU:=Hd hwt;rw [hz] at HS;rw [hsum] at hpos hsb;generalize wts l=u at HWT HLN HSM HU ⊢;clear hz hsum hwt hw;go_enter Tryz.func158,Tryz.ntmps158;go_wp2_with fail
  refine (HS.out _ H.out).mono ?_;rintro e w1 ⟨rfl,e1⟩
  cases e1
  go_wp2_with fail
  refine (zf1 w.heap.size l.length h0 hl _ (by simp) (by simp)).mono ?_;rintro e w2 ⟨a2,cap2,rfl,hr2,hb2⟩
  have R2:Hid (zA w2 (.slice a2 l.length cap2) u):=by
   have:=hr2.at;rw [← HU.out] at this;exact this
  have K2:=Hd (zh (ze (Below.refl w.heap.size w) (.cells #[.int .i64 1] 3)) hb2);clear hr2 hb2;go_wp2_with fail
  clear hmk;have hw2:=K2.out.size;go_loopw [24] (fun i W=>∃ (k:Nat) (arr:Array Value),k≤l.length∧i=.int .i64 k∧Hid (W.heap[w2.heap.size]?=some (.cells arr 195))∧arr.size=l.length * 3∧Hid (z7o arr (cl t u) k)∧Hid (Below w2.heap.size w2 W)) (fun i _=>l.length - (intOf i).toNat)
  case atStart=>exact ⟨0,z9P l.length,Nat.zero_le _,rfl,zj _ _,z9Q _,fun i hi=>absurd hi (Nat.not_lt_zero _),ze (Below.refl _ _) _⟩
  case round =>
   obtain ⟨k,arr,hk,rfl,HBk,hsz,HA,HB⟩:=hrel;by_cases hlt:k < l.length
   ·have hku:k < u.length:=(by rw [HLN.out];exact hlt);obtain ⟨b,off,cap',e',hc1,hc2,hbl,hx⟩:=(R2.out.kept HB.out).get hku;rw [HLN.out] at e' hc1;simp only [Value.slice.injEq,true_and] at e';obtain ⟨rfl,rfl⟩:=e';have hx0:=z2V HWT.out hku;have hm:=z5E ht hx0;have HN:=Hd (HA.out.next (n:=l.length) hsz hlt);have ecl:cl t u k=⟨k,t * u.getD k 0 / l.length,t * u.getD k 0 % l.length⟩:=(by rw [cl,HSM.out]);rw [ecl] at HN;generalize u.getD k 0=x at hx hx0 hm HN;clear ecl hku;unfold maxLen at hc2;obtain ⟨y0,q0⟩:=z8z (p:=k * 3) HBk.out (by omega);obtain ⟨y1,q1⟩:=z8z (p:=k * 3+1) HBk.out (by omega);obtain ⟨y2,q2⟩:=z8z (p:=k * 3+2) HBk.out (by omega);have fz:∀ p,wr.frozen? ⟨w2.heap.size,p,none⟩=false:=fun p=>zM HBk.out;have hdv:=Int.ediv_nonneg hm.1 (show (0:Int)≤(l.length:Int) by omega);have hdw:=Int.le_trans (Int.ediv_le_self (l.length:Int) hm.1) hm.2;have hrm:=z8a (a:=t * x) (s:=(l.length:Int)) (by omega);go_wp2_with fail
    go_region
    all_goals
     go_wp2;go_roundw
     case rel=>exact ⟨k+1,_,by omega,by go_num,z0l (z0l (z0l HBk.out _) _) _,by rw [Array.size_setIfInBounds,Array.size_setIfInBounds,Array.size_setIfInBounds];exact hsz,HN,z2l (z2l (z2l (z1d HB.out) (Nat.le_refl _) _) (Nat.le_refl _) _) (Nat.le_refl _) _⟩
     case measure=>simp [intOf];omega
   ·obtain rfl:k=l.length:=by omega
    go_wp2;go_ret;exact ⟨_,rfl,hw2,z9R HBk.out (by rw [HLN.out];exact HA.out),zh K2.out HB.out⟩
 ·have hwt:wts l=l:=(by rw [wts,if_neg hz]);rw [hwt] at hpos hsb ⊢;have hzb:(l.sum == 0)=false:=(by simpa using hz);have HG:=Hd (fun i hi=>z2V (i:=i) hw hi);have HSM:Hid (∀ k,cl t l k=⟨k,t * l.getD k 0 / l.sum,t * l.getD k 0 % l.sum⟩):=fun _=>rfl;generalize l.sum=s at HS HSM hpos hsb hzb hz;clear HWT HLN hwt hw;go_enter Tryz.func158,Tryz.ntmps158;go_wp2_with fail
  refine (HS.out _ H.out).mono ?_;rintro e w1 ⟨rfl,e1⟩
  cases e1
  go_wp2_with fail
  clear hmk;go_loopw [24] (fun i W=>∃ (k:Nat) (arr:Array Value),k≤l.length∧i=.int .i64 k∧Hid (W.heap[w.heap.size]?=some (.cells arr 195))∧arr.size=l.length * 3∧Hid (z7o arr (cl t l) k)∧Hid (Below w.heap.size w W)) (fun i _=>l.length - (intOf i).toNat)
  case atStart=>exact ⟨0,z9P l.length,Nat.zero_le _,rfl,zj _ _,z9Q _,fun i hi=>absurd hi (Nat.not_lt_zero _),ze (Below.refl _ _) _⟩
  case round =>
   obtain ⟨k,arr,hk,rfl,HBk,hsz,HA,HB⟩:=hrel;by_cases hlt:k < l.length
   ·obtain ⟨b,off,cap',e',hc1,hc2,hbl,hx⟩:=(H.out.kept HB.out).get hlt;simp only [Value.slice.injEq,true_and] at e';obtain ⟨rfl,rfl⟩:=e';have hx0:=HG.out k hlt;have hm:=z5E ht hx0;have HN:=Hd (HA.out.next (n:=l.length) hsz hlt);rw [HSM.out k] at HN;generalize l.getD k 0=x at hx hx0 hm HN;unfold maxLen at hc2;obtain ⟨y0,q0⟩:=z8z (p:=k * 3) HBk.out (by omega);obtain ⟨y1,q1⟩:=z8z (p:=k * 3+1) HBk.out (by omega);obtain ⟨y2,q2⟩:=z8z (p:=k * 3+2) HBk.out (by omega);have fz:∀ p,wr.frozen? ⟨w.heap.size,p,none⟩=false:=fun p=>zM HBk.out;have hdv:=Int.ediv_nonneg hm.1 (show (0:Int)≤s by omega);have hdw:=Int.le_trans (Int.ediv_le_self s hm.1) hm.2;have hrm:=z8a (a:=t * x) (s:=s) (by omega);go_wp2_with fail
    go_region
    all_goals
     go_wp2;go_roundw
     case rel=>exact ⟨k+1,_,by omega,by go_num,z0l (z0l (z0l HBk.out _) _) _,by rw [Array.size_setIfInBounds,Array.size_setIfInBounds,Array.size_setIfInBounds];exact hsz,HN,z2l (z2l (z2l (z1d HB.out) (Nat.le_refl _) _) (Nat.le_refl _) _) (Nat.le_refl _) _⟩
     case measure=>simp [intOf];omega
   ·obtain rfl:k=l.length:=by omega
    go_wp2;go_ret;exact ⟨_,rfl,Nat.le_refl _,z9R HBk.out HA.out,HB.out⟩
end
section
open Go.RowKit
def z12 (t:Int) (l:List Int):Nat→Int
 | 0=>0
 | k+1=>z12 t l k+z7n t l k
theorem z69 {l:List Int} {k:Nat} (h:k < l.length):inB (k:Int) 0 ((l.length:Int) - 1)=true:=z4r (by omega) (by omega)
theorem zhX {a s:Int} (hs:0 < s):s * (a / s)≤a∧a≤s * (a / s)+(s - 1):=by
 have h1:=Int.mul_ediv_add_emod a s;have h2:=Int.emod_nonneg a (show s ≠ 0 by omega);have h3:=Int.emod_lt_of_pos a hs
 constructor <;> omega
theorem z9S {t:Int} {l:List Int} (h:zB t l=true) (hs:0 < l.sum):∀ k,k≤l.length→l.sum * z12 t l k≤t * zF l k∧t * zF l k≤l.sum * z12 t l k+k * (l.sum - 1)
 | 0,_=>by simp [z12,zF]
 | k+1,hk=>by
  obtain ⟨h1,h2⟩:=z9S h hs k (by omega);have hlt:k < l.length:=(by omega);obtain ⟨h3,h4⟩:=zhX (a:=t * l.getD k 0) hs;rw [z12,z68 h (z69 hlt) (by omega),z1D hlt,Int.toNat_natCast,Int.mul_add,Int.mul_add];have e:((k+1:Nat):Int) * (l.sum - 1)=(k:Int) * (l.sum - 1)+(l.sum - 1):=(by rw [Int.natCast_add,Int.add_mul];simp);rw [e]
  constructor <;> omega
theorem z4W {t:Int} {l:List Int} (h:zB t l=true) (hs:0 < l.sum):z12 t l l.length≤t∧t - l.length < z12 t l l.length:=by
 obtain ⟨h1,h2⟩:=z9S h hs l.length (Nat.le_refl _);rw [z1w] at h1 h2
 have hl:0 < l.length:=by
  rcases Nat.eq_zero_or_pos l.length with h0 | h0
  ·rw [List.eq_nil_of_length_eq_zero h0] at hs;simp at hs
  ·exact h0
 generalize l.sum=s at *;generalize z12 t l l.length=d at *;generalize l.length=n at *;rw [Int.mul_comm t s] at h1 h2;constructor
 ·exact Int.le_of_mul_le_mul_left h1 hs
 ·apply Int.lt_of_mul_lt_mul_left (a:=s) _ (by omega);rw [Int.mul_sub];have e:(n:Int) * (s - 1)=s * n - n:=(by rw [Int.mul_sub,Int.mul_one,Int.mul_comm]);omega
theorem z8Y {t:Int} {l:List Int} (k:Int):0≤z7n t l k∧z7n t l k≤10000000000:=by
 by_cases h:(zB t l && inB k 0 (l.length - 1) && l.sum != 0)=true
 ·rw [z7n,if_pos h];simp only [Bool.and_eq_true,bne_iff_ne] at h;obtain ⟨⟨h1,h2⟩,h3⟩:=h;obtain ⟨ht,hl,hw⟩:=z04 h1;have hk:0≤k∧k≤(l.length:Int) - 1:=(by simpa [inB] using h2);have hm:=z5E ht (z2V hw (i:=k.toNat) (by omega));have hs:=(z2z hw).1;exact ⟨Int.ediv_nonneg hm.1 hs,Int.le_trans (Int.ediv_le_self _ hm.1) hm.2⟩
 ·rw [z7n,if_neg h];omega
theorem z5R {t:Int} {l:List Int}:∀ k:Nat,0≤z12 t l k∧z12 t l k≤k * 10000000000
 | 0=>by simp [z12]
 | k+1=>by
  have h1:=z5R (t:=t) (l:=l) k;have h2:=z8Y (t:=t) (l:=l) k;rw [z12];omega
end
section
open Go.Sort
theorem zj6 (x y:Cl):ltOf cfC x y=decide (y.o < x.o):=by
 unfold ltOf cfC
 split
 ·simp;omega
 ·split <;> (simp;omega)
def tB (x y:Cl):Bool:=decide (y.o < x.o∨(x.o=y.o∧(x.p < y.p∨(x.p=y.p∧x.w < y.w))))
theorem z6k (x y:Cl):tB x y=true ↔ (y.o < x.o∨(x.o=y.o∧(x.p < y.p∨(x.p=y.p∧x.w < y.w)))):=by simp [tB]
theorem z8b (x y:Cl):tB x y=false ↔ ¬ (y.o < x.o∨(x.o=y.o∧(x.p < y.p∨(x.p=y.p∧x.w < y.w)))):=by rw [← z6k];simp
theorem z4e:SWO tB where
 irrefl:=fun x=>by rw [z8b];omega
 trans:=fun x y z h1 h2=>by rw [z6k] at *;omega
 ntrans:=fun x y z h1 h2=>by rw [z8b] at *;omega
theorem zhY (x y:Cl) (h1:tB x y=false) (h2:tB y x=false):x=y:=by
 rw [z8b] at h1 h2;obtain ⟨a,b,c⟩:=x;obtain ⟨a',b',c'⟩:=y;simp only at h1 h2;obtain rfl:a=a':=by omega
 obtain rfl:b=b':=by omega
 obtain rfl:c=c':=by omega
 rfl
theorem zc3 {x y:Cl} (h:y.p < x.p):ltOf cfC x y=tB x y:=by
 rw [zj6,Bool.eq_iff_iff,z6k,decide_eq_true_eq];omega
theorem z6l {x y:Cl} (h:tB x y=true):tB y x=false:=z4e.asymmA h
theorem z9T (lt:Cl→Cl→Bool) (a b:Nat):∀ (j:Nat) (d:Array Cl),a≤j→j < b→b≤d.size→PermIn a b d (insInner lt a j d)
 | 0,d,_,_,_=>by unfold insInner;exact permIn_refl d a b
 | j+1,d,haj,hjb,hb=>by
  unfold insInner
  split
  ·rename_i hc
   simp only [Bool.and_eq_true,decide_eq_true_eq] at hc;exact permIn_trans _ _ _ a b (swp_permIn d a b (j+1) j haj hjb (by omega) (by omega) hb) (z9T lt a b j _ (by omega) (by omega) (by rw [size_swp];exact hb))
  ·exact permIn_refl d a b
theorem zcH (a:Nat):∀ (j:Nat) (d:Array Cl),j < d.size→(∀ q,a≤q→q < j→d[q]!.p < d[j]!.p)→insInner (ltOf cfC) a j d=insInner tB a j d
 | 0,d,_,_=>by unfold insInner;rfl
 | j+1,d,hj,h=>by
  unfold insInner;by_cases ha:j+1 > a
  ·have e:ltOf cfC d[j+1]! d[j]! = tB d[j+1]! d[j]! := zc3 (h j (by omega) (by omega));rw [e]
   cases hc:tB d[j+1]! d[j]!
   ·simp
   ·simp only [ha,decide_true,Bool.and_self,if_true];refine zcH a j _ (by rw [size_swp];omega) (fun q h1 h2=>?_);rw [swp_right _ _ _ (by omega),swp_other _ _ _ _ (by omega) (by omega)];exact h q h1 (by omega)
  ·simp [ha]
theorem zcI (a b:Nat):∀ (n i:Nat) (d:Array Cl),b - i=n→a < i→b≤d.size→(∀ x y,a≤x→x < y→i≤y→y < b→d[x]!.p < d[y]!.p)→insOuter (ltOf cfC) a b i d=insOuter tB a b i d
 | 0,i,d,hn,_,_,_=>by rw [insOuter_stop _ _ _ _ _ (by omega),insOuter_stop _ _ _ _ _ (by omega)]
 | n+1,i,d,hn,hai,hb,h=>by
  have hlt:i < b:=(by omega);rw [insOuter_go _ _ _ _ _ hlt,insOuter_go _ _ _ _ _ hlt,zcH a i d (by omega) (fun q h1 h2=>h q i h1 h2 (Nat.le_refl _) hlt)];have hP:=z9T tB a (i+1) i d (by omega) (by omega) (by omega);refine zcI a b n (i+1) _ (by omega) (by omega) (by rw [hP.1];exact hb) (fun x y h1 h2 h3 h4=>?_);rw [hP.2.1 y (Or.inr h3)];by_cases hx:x < i+1
  ·exact permIn_all d _ a (i+1) (fun z=>z.p < d[y]!.p) (by omega) hP (fun q h5 h6=>h q y h5 (by omega) (by omega) h4) x h1 hx
  ·rw [hP.2.1 x (Or.inr (by omega))];exact h x y h1 h2 (by omega) h4
def Asc (a b:Nat) (d:Array Cl):Prop:=∀ x y,a≤x→x < y→y < b→d[x]!.p < d[y]!.p
theorem zbm (d:Array Cl) (a b:Nat) (hab:a≤b) (hb:b≤d.size) (h:Asc a b d):PermIn a b d (Sort.insertionSort (ltOf cfC) d a b)∧SortedIn tB a b (Sort.insertionSort (ltOf cfC) d a b):=by
 have e:Sort.insertionSort (ltOf cfC) d a b=Sort.insertionSort tB d a b:=by
  unfold Sort.insertionSort;exact zcI a b (b - (a+1)) (a+1) d rfl (by omega) hb (fun x y h1 h2 _ h4=>h x y h1 h2 h4)
 rw [e];exact insertionSort_holds z4e d a b hab hb
def z0t (t:Int) (u:List Int):List Int:=(clL t u).map (·.w)
theorem z0s (t:Int) (u:List Int):(z0t t u).length=u.length:=by simp [z0t,z4J]
theorem z4K {t:Int} {u:List Int} {i:Nat} (h:i < u.length):(z0t t u).getD i 0=t * u.getD i 0 / u.sum:=by
 rw [List.getD,z0t,List.getElem?_map,zaB h];rfl
theorem z4L {t:Int} {l:List Int} (h:zB t l=true):zB t (wts l)=true:=by
 simp only [zB,Bool.and_eq_true] at h ⊢;obtain ⟨⟨h1,h2⟩,h3⟩:=h;exact ⟨⟨h1,by rw [z3w];exact h2⟩,z89 h3⟩
theorem z5i {t:Int} {u:List Int} (h:zB t u=true) (hs:0 < u.sum):∀ k,k≤u.length→zF (z0t t u) k=z12 t u k
 | 0,_=>by simp [zF,z12]
 | k+1,hk=>by
  have hlt:k < u.length:=(by omega);rw [z1D (by rw [z0s];exact hlt),z5i h hs k (by omega),z4K hlt,z12,z68 h (z69 hlt) (by omega),Int.toNat_natCast]
theorem z5S {t:Int} {u:List Int}:∀ {i j:Nat},i≤j→z12 t u i≤z12 t u j
 | i,0,h=>by
  obtain rfl:i=0:=by omega
  exact Int.le_refl _
 | i,j+1,h=>by
  rcases Nat.lt_or_eq_of_le h with h1 | rfl
  ·have:=z5S (t:=t) (u:=u) (i:=i) (j:=j) (by omega);have:=(z8Y (t:=t) (l:=u) j).1;rw [z12];omega
  ·exact Int.le_refl _
def z2v (t:Int) (u:List Int):Nat:=(t - z12 t u u.length).toNat
theorem z6a {t:Int} {u:List Int} (h:zB t u=true) (hs:0 < u.sum):(z2v t u:Int)=t - z12 t u u.length∧z2v t u < u.length:=by
 have:=z4W h hs;unfold z2v;omega
theorem zjI (t:Int) (u:List Int):Asc 0 (clL t u).toArray.size (clL t u).toArray:=by
 intro x y _ h1 h2;have h3:y < u.length:=(by simpa [z4J] using h2);rw [z8C (by omega),z8C h3];show (x:Int) < (y:Int);omega
def zW (t:Int) (u:List Int):List Cl:=(clL t u).mergeSort (fun x y=>!tB y x)
theorem z5j (t:Int) (u:List Int):(zW t u).length=u.length:=by rw [zW,List.length_mergeSort,z4J]
theorem z6m {t:Int} {u:List Int} {c:Cl} (h:c ∈ zW t u):∃ i,i < u.length∧c=cl t u i:=by
 rw [zW,List.mem_mergeSort,clL,List.mem_map] at h;obtain ⟨i,h1,h2⟩:=h;exact ⟨i,List.mem_range.1 h1,h2.symm⟩
theorem zjJ {t:Int} {u:List Int} {d:Array Cl} (hp:PermIn 0 (clL t u).toArray.size (clL t u).toArray d) (hs:SortedIn tB 0 (clL t u).toArray.size d):d=(zW t u).toArray:=by
 have h:=sorted_unique_holds z4e zhY (clL t u).toArray d hp hs;apply Array.toList_inj.1;rw [h];simp [zW]
def z8c (g:List Int) (c:Cl):List Int:=g.set c.p.toNat (g.getD c.p.toNat 0+1)
theorem zhZ (g:List Int) (c:Cl):(z8c g c).length=g.length:=by simp [z8c]
def z1l (g:List Int) (s:List Cl) (k:Nat):List Int:=(s.take k).foldl z8c g
theorem z5T (g:List Int) (s:List Cl):z1l g s 0=g:=rfl
theorem z4X {g:List Int} {s:List Cl} {k:Nat} (h:k < s.length):z1l g s (k+1)=z8c (z1l g s k) s[k]:=by
 unfold z1l;rw [List.take_add_one,List.foldl_append,List.getElem?_eq_getElem h];rfl
theorem z4M (g:List Int) (s:List Cl):∀ k,(z1l g s k).length=g.length:=by
 intro k;unfold z1l
 induction s.take k generalizing g with
 | nil=>rfl
 | cons c r ih=>rw [List.foldl_cons,ih,zhZ]
theorem zcJ (g:List Int) (c:Cl) (i:Nat) (hi:i < g.length):(z8c g c).getD i 0=if c.p.toNat=i then g.getD i 0+1 else g.getD i 0:=by
 unfold z8c;by_cases e:c.p.toNat=i
 ·subst e;simp [List.getD,hi]
 ·simp [List.getD,List.getElem?_set_ne e,e]
theorem z5A {g:List Int} {s:List Cl} {B:Int} (hg:∀ i,i < g.length→0≤g.getD i 0∧g.getD i 0≤B):∀ k,k≤s.length→∀ i,i < g.length→0≤(z1l g s k).getD i 0∧(z1l g s k).getD i 0≤B+k
 | 0,_,i,hi=>by have:=hg i hi;rw [z5T];omega
 | k+1,hk,i,hi=>by
  have ih:=z5A (s:=s) hg k (by omega) i hi;rw [z4X (show k < s.length by omega),zcJ _ _ _ (by rw [z4M];exact hi)]
  split <;> omega
def zt (t:Int) (l:List Int):List Int:=if zB t l=true∧l ≠ [] then z1l (z0t t (wts l)) (zW t (wts l)) (z2v t (wts l)) else []
theorem z4j {t:Int} {l:List Int} (h:¬ (zB t l=true∧l ≠ [])):zt t l=[]:=by rw [zt,if_neg h]
theorem z2B {t:Int} {l:List Int} (h1:zB t l=true) (h2:l ≠ []):zt t l=z1l (z0t t (wts l)) (zW t (wts l)) (z2v t (wts l)):=by rw [zt,if_pos ⟨h1,h2⟩]
theorem z1s {t:Int} {l:List Int} (h1:zB t l=true):(zt t l).length=l.length:=by
 by_cases h2:l=[]
 ·subst h2;rw [z4j (by simp)]
 ·rw [z2B h1 h2,z4M,z0s,z3w]
theorem z7p {t:Int} {u:List Int} (h:zB t u=true) (hs:0 < u.sum) {i:Nat} (hi:i < u.length):0≤(z0t t u).getD i 0∧(z0t t u).getD i 0≤100000:=by
 have h1:=z5i h hs i (by omega);have h2:=z5i h hs (i+1) (by omega);rw [z1D (by rw [z0s];exact hi)] at h2;have h3:=z5S (t:=t) (u:=u) (i:=i+1) (j:=u.length) (by omega);have h4:=(z4W h hs).1;have h5:=(z04 h).1;have h6:=z5R (t:=t) (l:=u) i
 have h7:0≤(z0t t u).getD i 0:=by
  rw [z4K hi];have hw:=(z04 h).2.2;exact Int.ediv_nonneg (z5E h5 (z2V hw hi)).1 (by omega)
 exact ⟨h7,by omega⟩
theorem z1y {t:Int} {l:List Int} (i:Nat) (hi:i < (zt t l).length):0≤(zt t l).getD i 0∧(zt t l).getD i 0≤100200:=by
 by_cases hc:zB t l=true∧l ≠ []
 ·obtain ⟨h1,h2⟩:=hc;have hw:=(z04 h1).2;have h0:0 < l.length:=List.length_pos_iff.2 h2;have hp:=z5h hw.2 h0;have hl:=z6a (z4L h1) hp;rw [z1s h1] at hi;rw [z2B h1 h2];have:=z5A (B:=100000) (s:=zW t (wts l)) (fun j hj=>z7p (z4L h1) hp (by rw [z0s] at hj;exact hj)) (z2v t (wts l)) (by rw [z5j];omega) i (by rw [z0s,z3w];exact hi);rw [z3w] at hl;omega
 ·rw [z4j hc] at hi
  cases hi
def z3A (t:Int) (u:List Int):List Int:=(clL t u).map (·.o)
theorem z3M (t:Int) (u:List Int):(z3A t u).length=u.length:=by simp [z3A,z4J]
theorem z7q {t:Int} {u:List Int} {i:Nat} (h:i < u.length):(z3A t u).getD i 0=t * u.getD i 0 % u.sum:=by
 rw [List.getD,z3A,List.getElem?_map,zaB h];rfl
theorem zbn {l:List Int} {k:Nat} (h:k < l.length):l.take (k+1)=l.take k ++ [l.getD k 0]:=by
 rw [List.take_add_one];simp [List.getD,h]
def z2P (lr:List Int) (bl:List Bool) (m:Nat) (k:Int):Prop :=
 (k=-1∧∀ i,i < m→bl.getD i false=true)∨∃ j:Nat,k=j∧j < m∧bl.getD j false=false∧∀ i,i < m→bl.getD i false=false→lr.getD i 0 < lr.getD j 0∨(lr.getD i 0=lr.getD j 0∧j≤i)
theorem z2P.zero (lr:List Int) (bl:List Bool):z2P lr bl 0 (-1):=.inl ⟨rfl,fun _ h=>absurd h (Nat.not_lt_zero _)⟩
theorem z2P.got {lr:List Int} {bl:List Bool} {m:Nat} {k:Int} (h:z2P lr bl m k) (hb:bl.getD m false=true):z2P lr bl (m+1) k:=by
 rcases h with ⟨h1,h2⟩ | ⟨j,h1,h2,h3,h4⟩
 ·refine .inl ⟨h1,fun i hi=>?_⟩
  rcases Nat.lt_or_eq_of_le (Nat.lt_succ_iff.1 hi) with h | rfl
  ·exact h2 i h
  ·exact hb
 ·refine .inr ⟨j,h1,by omega,h3,fun i hi hn=>?_⟩
  rcases Nat.lt_or_eq_of_le (Nat.lt_succ_iff.1 hi) with h | rfl
  ·exact h4 i h hn
  ·rw [hb] at hn;cases hn
theorem z2P.first {lr:List Int} {bl:List Bool} {m:Nat} (h:∀ i,i < m→bl.getD i false=true) (hb:bl.getD m false=false):z2P lr bl (m+1) m:=by
 refine .inr ⟨m,rfl,Nat.lt_succ_self _,hb,fun i hi hn=>?_⟩
 rcases Nat.lt_or_eq_of_le (Nat.lt_succ_iff.1 hi) with h1 | rfl
 ·rw [h i h1] at hn;cases hn
 ·exact .inr ⟨rfl,Nat.le_refl _⟩
theorem z2P.more {lr:List Int} {bl:List Bool} {m j:Nat} (h4:∀ i,i < m→bl.getD i false=false→lr.getD i 0 < lr.getD j 0∨(lr.getD i 0=lr.getD j 0∧j≤i)) (hb:bl.getD m false=false) (hm:lr.getD j 0 < lr.getD m 0):z2P lr bl (m+1) m:=by
 refine .inr ⟨m,rfl,Nat.lt_succ_self _,hb,fun i hi hn=>?_⟩
 rcases Nat.lt_or_eq_of_le (Nat.lt_succ_iff.1 hi) with h1 | rfl
 ·have:=h4 i h1 hn;left;omega
 ·exact .inr ⟨rfl,Nat.le_refl _⟩
theorem z2P.less {lr:List Int} {bl:List Bool} {m j:Nat} (hj:j < m) (h3:bl.getD j false=false) (h4:∀ i,i < m→bl.getD i false=false→lr.getD i 0 < lr.getD j 0∨(lr.getD i 0=lr.getD j 0∧j≤i)) (hm:¬ lr.getD j 0 < lr.getD m 0):z2P lr bl (m+1) j:=by
 refine .inr ⟨j,rfl,by omega,h3,fun i hi hn=>?_⟩
 rcases Nat.lt_or_eq_of_le (Nat.lt_succ_iff.1 hi) with h1 | rfl
 ·exact h4 i h1 hn
 ·omega
theorem z7r (t:Int) (u:List Int):(zW t u).Pairwise (fun x y=>tB y x=false):=by
 have:=List.pairwise_mergeSort (le:=fun x y:Cl=>!tB y x) (fun a b c h1 h2=>by
   simp only [Bool.not_eq_true'] at h1 h2 ⊢;exact z4e.ntrans c b a h2 h1) (fun a b=>by
   cases h:tB b a with
   | false=>simp
   | true=>simp [z6l h]) (clL t u)
 exact this.imp (fun h=>by simpa using h)
theorem z3N (t:Int) (u:List Int) (i:Nat):(cl t u i).p=i:=rfl
theorem zbo (t:Int) (u:List Int):(zW t u).Nodup:=by
 rw [zW,(List.mergeSort_perm _ _).nodup_iff,clL];refine List.Pairwise.map _ (fun a b (h:a ≠ b) e=>h ?_) List.nodup_range;have:=congrArg Cl.p e;rw [z3N,z3N] at this;omega
theorem zen {t:Int} {u:List Int} {i:Nat} (h:i < u.length):cl t u i ∈ zW t u:=by
 rw [zW,List.mem_mergeSort,clL];exact List.mem_map.2 ⟨i,List.mem_range.2 h,rfl⟩
def zcK (t:Int) (u:List Int) (bl:List Bool) (j:Nat):Prop:=∀ i,i < u.length→(bl.getD i false=true ↔ cl t u i ∈ (zW t u).take j)
theorem zi0 (t:Int) (u:List Int) (n:Nat):zcK t u (List.replicate n false) 0:=fun i _=>by
 simp only [List.take_zero,List.not_mem_nil,iff_false];by_cases h:i < n <;> simp [List.getD,h]
theorem zj7 {t:Int} {u:List Int} {bl:List Bool} {j:Nat} {k:Int} (hj:j < (zW t u).length) (hg:zcK t u bl j) (hn:z2P (z3A t u) bl u.length k):∃ i,i < u.length∧(zW t u)[j]=cl t u i∧k=i∧bl.getD i false=false:=by
 obtain ⟨i,hi,he⟩:=z6m (List.getElem_mem hj)
 have hno:bl.getD i false=false:=by
  cases hb:bl.getD i false with
  | false=>rfl
  | true =>
   exfalso
   have hm:=(hg i hi).1 hb;rw [← he] at hm;obtain ⟨q,hq,hqe⟩:=List.getElem_of_mem hm;rw [List.length_take] at hq;rw [List.getElem_take] at hqe;exact List.pairwise_iff_getElem.1 (zbo t u) q j (by omega) hj (by omega) hqe
 refine ⟨i,hi,he,?_,hno⟩
 rcases hn with ⟨_,h2⟩ | ⟨j',h1,h2,h3,h4⟩
 ·rw [h2 i hi] at hno;cases hno
 ·have hx:=h4 i hi hno
  have hm':cl t u j' ∈ (zW t u).drop j:=by
   have:=zen (t:=t) h2;rw [← List.take_append_drop j (zW t u),List.mem_append] at this
   rcases this with h | h
   ·exfalso
    rw [(hg j' h2).2 h] at h3
    cases h3
   ·exact h
  have hle:tB (cl t u j') (cl t u i)=false:=by
   rw [List.drop_eq_getElem_cons hj,List.mem_cons] at hm'
   rcases hm' with h | h
   ·rw [h,he];exact z4e.irrefl _
   ·have hp:=List.pairwise_iff_getElem.1 (z7r t u);obtain ⟨q,hq,hqe⟩:=List.getElem_of_mem h;rw [List.length_drop] at hq;rw [List.getElem_drop] at hqe;have:=hp j (j+1+q) hj (by omega) (by omega);rw [hqe,he] at this;exact this
  rw [z8b] at hle;rw [z7q hi,z7q h2] at hx;simp only [cl] at hle;rw [h1];omega
theorem zi1 {t:Int} {u:List Int} {bl:List Bool} {j i:Nat} (hl:bl.length=u.length) (hj:j < (zW t u).length) (hg:zcK t u bl j) (he:(zW t u)[j]=cl t u i):zcK t u (bl.set i true) (j+1):=by
 intro q hq;rw [List.take_add_one,List.mem_append,List.getElem?_eq_getElem hj,he];by_cases e:i=q
 ·subst e;simp [List.getD,hl,hq]
 ·have h1:(bl.set i true).getD q false=bl.getD q false:=(by simp [List.getD,List.getElem?_set_ne e]);rw [h1,hg q hq];simp only [Option.toList_some,List.mem_singleton];constructor
  ·exact Or.inl
  ·rintro (h | h)
   ·exact h
   ·exfalso
    have:=congrArg Cl.p h;rw [z3N,z3N] at this;omega
instance:DecidableEq Cl:=fun a b=>decidable_of_iff (a.p=b.p∧a.w=b.w∧a.o=b.o) (by cases a;cases b;simp)
theorem zi2 {a b:List Int} (h:a.Perm b):a.sum=b.sum:=by
 induction h with
 | nil=>rfl
 | cons x _ ih=>rw [List.sum_cons,List.sum_cons,ih]
 | swap x y l=>simp only [List.sum_cons];omega
 | trans _ _ h1 h2=>exact h1.trans h2
theorem zj8 {l:List Int}:∀ {i:Nat},i < l.length→∀ x,(l.set i x).sum=l.sum - l.getD i 0+x:=by
 induction l with
 | nil=>intro i hi;cases hi
 | cons y r ih =>
  intro i hi x
  cases i with
  | zero=>simp [List.getD];omega
  | succ k =>
   have:=ih (i:=k) (by simpa using hi) x;simp only [List.set_cons_succ,List.sum_cons,this];simp [List.getD];omega
theorem zi3 {g:List Int} {c:Cl} (h:c.p.toNat < g.length):(z8c g c).sum=g.sum+1:=by
 rw [z8c,zj8 h];omega
theorem zbp {t:Int} {u:List Int} {g:List Int} (hg:g.length=u.length):∀ k,k≤(zW t u).length→(z1l g (zW t u) k).sum=g.sum+k
 | 0,_=>by rw [z5T];omega
 | k+1,hk=>by
  have hlt:k < (zW t u).length:=(by omega);obtain ⟨i,hi,he⟩:=z6m (List.getElem_mem hlt);rw [z4X hlt,zi3 (by rw [he,z3N,z4M,hg];simpa using hi),zbp hg k (by omega)];omega
theorem zbq {t:Int} {u:List Int} {g:List Int} (hg:g.length=u.length) {i:Nat} (hi:i < u.length):∀ k,k≤(zW t u).length→(z1l g (zW t u) k).getD i 0=g.getD i 0+if cl t u i ∈ (zW t u).take k then 1 else 0
 | 0,_=>by rw [z5T];simp
 | k+1,hk=>by
  have hlt:k < (zW t u).length:=(by omega);obtain ⟨j,hj,he⟩:=z6m (List.getElem_mem hlt);rw [z4X hlt,zcJ _ _ _ (by rw [z4M,hg];exact hi),zbq hg hi k (by omega),he,z3N,List.take_add_one,List.getElem?_eq_getElem hlt,he]
  have hno:cl t u j ∉ (zW t u).take k:=fun hm=>by
   obtain ⟨q,hq,hqe⟩:=List.getElem_of_mem hm;rw [List.length_take] at hq;rw [List.getElem_take] at hqe;exact List.pairwise_iff_getElem.1 (zbo t u) q k (by omega) hlt (by omega) (by rw [hqe,he])
  by_cases e:j=i
  ·subst e;simp [hno]
  ·have e2:cl t u i ≠ cl t u j:=fun h=>e (by have:=congrArg Cl.p h;rw [z3N,z3N] at this;omega);simp [e,e2]
theorem z6z {t:Int} {l:List Int} (h1:zB t l=true) {i:Nat} (hi:i < l.length) :
  (zt t l).getD i 0=t * (wts l).getD i 0 / (wts l).sum+if cl t (wts l) i ∈ (zW t (wts l)).take (z2v t (wts l)) then 1 else 0:=by
 have h0:0 < l.length:=(by omega);have hw:=(z04 h1).2;have hp:=z5h hw.2 h0;have hl:=z6a (z4L h1) hp;have hu:i < (wts l).length:=(by rw [z3w];exact hi);rw [z2B h1 (List.length_pos_iff.1 h0),zbq (z0s _ _) hu _ (by rw [z5j];omega),z4K hu]
theorem z3f {t:Int} {l:List Int} (h1:zB t l=true) (h0:0 < l.length):(zt t l).sum=t:=by
 have hw:=(z04 h1).2;have hp:=z5h hw.2 h0;have hk:=z4L h1;have hl:=z6a hk hp;rw [z2B h1 (List.length_pos_iff.1 h0),zbp (z0s _ _) _ (by rw [z5j];omega)];have:=z5i hk hp (wts l).length (Nat.le_refl _);rw [← z0s t (wts l),z1w,z0s] at this;omega
theorem zbr {t:Int} {u:List Int} {i k j:Nat} (hi:i < u.length) (h:tB (cl t u i) (cl t u k)=true) (hk:cl t u k ∈ (zW t u).take j):cl t u i ∈ (zW t u).take j:=by
 have hm:=zen (t:=t) hi;rw [← List.take_append_drop j (zW t u),List.mem_append] at hm
 rcases hm with hm | hm
 ·exact hm
 ·exfalso
  obtain ⟨q,hq,hqe⟩:=List.getElem_of_mem hk;obtain ⟨p,hp,hpe⟩:=List.getElem_of_mem hm;rw [List.length_take] at hq;rw [List.getElem_take] at hqe;rw [List.length_drop] at hp;rw [List.getElem_drop] at hpe;have:=List.pairwise_iff_getElem.1 (z7r t u) q (j+p) (by omega) (by omega) (by omega);rw [hqe,hpe,h] at this
  cases this
theorem zgq {t:Int} {u:List Int}:((zW t u).map (·.o)).sum=(z3A t u).sum:=by
 rw [zW,z3A];exact zi2 ((List.mergeSort_perm (clL t u) _).map _)
theorem zeo {t:Int} {u:List Int} (h:zB t u=true) (hs:0 < u.sum):∀ k,k≤u.length→zF (z3A t u) k=t * zF u k - u.sum * z12 t u k
 | 0,_=>by simp [zF,z12]
 | k+1,hk=>by
  have hlt:k < u.length:=(by omega);have m1:=Int.mul_ediv_add_emod (t * u.getD k 0) u.sum;rw [z1D (by rw [z3M];exact hlt),zeo h hs k (by omega),z7q hlt,z1D hlt,z12,z68 h (z69 hlt) (by omega),Int.toNat_natCast,Int.mul_add,Int.mul_add];omega
theorem zbs {L:List Int} {B:Int} (h:∀ x ∈ L,x≤B):L.sum≤L.length * B:=by
 induction L with
 | nil=>simp
 | cons y r ih =>
  have h1:=ih (fun x hx=>h x (List.mem_cons_of_mem _ hx));have h2:=h y List.mem_cons_self;rw [List.sum_cons,List.length_cons,Int.natCast_add,Int.add_mul];simp only [Int.natCast_one,Int.one_mul];omega
theorem zgr {t:Int} {u:List Int} (hs:0 < u.sum) (i:Nat):0≤(cl t u i).o∧(cl t u i).o < u.sum:=⟨Int.emod_nonneg _ (by omega),Int.emod_lt_of_pos _ hs⟩
theorem zcL {t:Int} {u:List Int} (h:zB t u=true) (hs:0 < u.sum) {i:Nat} (ho:(cl t u i).o=0):cl t u i ∉ (zW t u).take (z2v t u):=by
 intro hm;obtain ⟨q,hq,hqe⟩:=List.getElem_of_mem hm;rw [List.length_take] at hq;rw [List.getElem_take] at hqe;have hlf:=z6a h hs;have hall:(zW t u).map (·.o)=((zW t u).take q).map (·.o) ++ ((zW t u).drop q).map (·.o):=(by rw [← List.map_append,List.take_append_drop])
 have hsum:((zW t u).map (·.o)).sum=u.sum * z2v t u:=by
  rw [zgq];have:=zeo h hs u.length (Nat.le_refl _);rw [← z3M t u,z1w,z3M,z1w] at this;rw [this,hlf.1,Int.mul_sub,Int.mul_comm t]
 have h1:(((zW t u).take q).map (·.o)).sum≤(((zW t u).take q).map (·.o)).length * (u.sum - 1):=zbs (fun x hx=>by
  obtain ⟨c,hc,rfl⟩:=List.mem_map.1 hx;obtain ⟨j,_,rfl⟩:=z6m (List.mem_of_mem_take hc);have:=(zgr (t:=t) hs j).2
  omega)
 have h2:(((zW t u).drop q).map (·.o)).sum≤(((zW t u).drop q).map (·.o)).length * 0:=zbs (fun x hx=>by
  obtain ⟨c,hc,rfl⟩:=List.mem_map.1 hx;obtain ⟨p,hp,hpe⟩:=List.getElem_of_mem hc;rw [List.length_drop] at hp;rw [List.getElem_drop] at hpe
  have hle:tB (zW t u)[q+p] (zW t u)[q]=false:=by
   rcases Nat.eq_zero_or_pos p with rfl | hpp
   ·exact z4e.irrefl _
   ·exact List.pairwise_iff_getElem.1 (z7r t u) q (q+p) (by omega) (by omega) (by omega)
  rw [hqe,hpe,z8b] at hle
  omega)
 rw [hall,List.sum_append] at hsum;simp only [List.length_map,List.length_take] at h1;rw [Nat.min_eq_left (by omega)] at h1
 have h3:(q:Int) * (u.sum - 1) < u.sum * z2v t u:=by
  have e1:(q:Int) * (u.sum - 1)≤(q:Int) * u.sum:=Int.mul_le_mul_of_nonneg_left (by omega) (by omega);have e2:(q:Int) * u.sum < (z2v t u:Int) * u.sum:=Int.mul_lt_mul_of_pos_right (by omega) hs;rw [Int.mul_comm u.sum];omega
 omega
theorem z5U {t:Int} {l:List Int} (h1:zB t l=true) (hs:l.sum ≠ 0) {i:Nat} (hi:i < l.length) (hz:l.getD i 0=0):(zt t l).getD i 0=0:=by
 have hu:wts l=l:=(by rw [wts,if_neg hs]);have hp:=z5h (z04 h1).2.2 (show 0 < l.length by omega);rw [hu] at hp;have:=zcL (t:=t) h1 hp (i:=i) (by show t * l.getD i 0 % l.sum=0;rw [hz];simp);rw [z6z h1 hi,hu,if_neg this,hz];simp
theorem zgs {t:Int} {l:List Int} (h1:zB t l=true) (hs:l.sum ≠ 0) {i:Nat} (hi:i < l.length):(zt t l).getD i 0=z7n t l i∨(zt t l).getD i 0=z7n t l i+1:=by
 have hu:wts l=l:=(by rw [wts,if_neg hs]);rw [z6z h1 hi,hu,z68 h1 (z69 hi) hs,Int.toNat_natCast]
 split <;> omega
theorem zf2 {t:Int} {l:List Int} (h1:zB t l=true) (hs:t < l.sum) {i:Nat} (hi:i < l.length):0≤(zt t l).getD i 0∧(zt t l).getD i 0≤l.getD i 0:=by
 obtain ⟨ht,_,hw⟩:=z04 h1;have hwi:=z2V hw hi;have hsm:=z1y (t:=t) (l:=l) i (by rw [z1s h1];exact hi);refine ⟨hsm.1,?_⟩;by_cases hz:l.getD i 0=0
 ·rw [z5U h1 (by omega) hi hz];omega
 ·have hlt:t * l.getD i 0 / l.sum < l.getD i 0:=by
   apply Int.ediv_lt_of_lt_mul (by omega);rw [Int.mul_comm (l.getD i 0)];exact Int.mul_lt_mul_of_pos_right hs (by omega)
  rcases zgs h1 (show l.sum ≠ 0 by omega) hi with h | h
  ·rw [h,z68 h1 (z69 hi) (by omega),Int.toNat_natCast];omega
  ·rw [h,z68 h1 (z69 hi) (by omega),Int.toNat_natCast];omega
end
section
open Go.RowKit
def z00 (l:List Int) (c m:Nat):List Int:=(l.drop c).take m
theorem z1L {l:List Int} {c m:Nat} (h:c+m≤l.length):(z00 l c m).length=m:=by unfold z00;rw [List.length_take,List.length_drop];omega
theorem z7s {l:List Int} {c m k:Nat} (_:c+m≤l.length) (hk:k < m):(z00 l c m).getD k 0=l.getD (c+k) 0:=by
 unfold z00;simp [List.getD,List.getElem?_take_of_lt hk,List.getElem?_drop]
theorem z6n {l:List Int} {c m:Nat} {x:Int} (h:x ∈ z00 l c m):x ∈ l:=List.mem_of_mem_drop (List.mem_of_mem_take h)
def z2w (l:List Int) (c:Nat) (z0j:List Int):Nat→List Int
 | 0=>l
 | k+1=>(z2w l c z0j k).set (c+k) (l.getD (c+k) 0+z0j.getD k 0)
theorem z3g (l:List Int) (c:Nat) (z0j:List Int):∀ k,(z2w l c z0j k).length=l.length
 | 0=>rfl
 | k+1=>by rw [z2w,List.length_set,z3g l c z0j k]
theorem z6A (l:List Int) (c:Nat) (z0j:List Int) {i:Nat}:∀ k,(∀ j,j < k→c+j ≠ i)→(z2w l c z0j k).getD i 0=l.getD i 0
 | 0,_=>rfl
 | k+1,h=>by
  rw [z2w];simp only [List.getD,List.getElem?_set_ne (h k (by omega))];exact z6A l c z0j k (fun j hj=>h j (by omega))
theorem zcM (l:List Int) (c:Nat) (z0j:List Int) {j:Nat}:∀ k,j < k→c+k≤l.length→(z2w l c z0j k).getD (c+j) 0=l.getD (c+j) 0+z0j.getD j 0
 | k+1,h,hl=>by
  rw [z2w];by_cases e:j=k
  ·subst e;have:c+j < (z2w l c z0j j).length:=(by rw [z3g];omega);simp [List.getD,this]
  ·have:=zcM l c z0j (j:=j) k (by omega) (by omega);simp only [List.getD,List.getElem?_set_ne (show c+k ≠ c+j by omega)];exact this
def z1c (l:List Int) (c m:Nat) (gap need:Int):Int:=need - ((z00 l c m).sum+gap * ((m:Int) - 1))
def z32 (l:List Int) (c m:Nat) (gap need:Int):List Int:=if z1c l c m gap need≤0 then l else z2w l c (zt (z1c l c m gap need) (z00 l c m)) m
theorem zbt (l:List Int) (c m:Nat) (gap need:Int):(z32 l c m gap need).length=l.length:=by unfold z32;split;rfl;exact z3g _ _ _ _
def UpB (l:List Int) (B:Int):Prop:=∀ i,i < l.length→0≤l.getD i 0∧l.getD i 0≤B
theorem UpB.mem {l:List Int} {B:Int} (h:UpB l B) {x:Int} (hx:x ∈ l):0≤x∧x≤B:=by
 obtain ⟨i,hi,rfl⟩:=List.mem_iff_getElem.1 hx;have:=h i hi
 simpa [List.getD,hi] using this
theorem z5k:∀ {l:List Int} {B:Int},(∀ x ∈ l,0≤x∧x≤B)→0≤l.sum∧l.sum≤l.length * B
 | [],_,_=>by simp
 | a :: l,B,h=>by
  have h1:=h a (by simp);have h2:=z5k (l:=l) (B:=B) (fun x hx=>h x (by simp [hx]));rw [List.sum_cons,List.length_cons,show ((l.length+1:Nat):Int) * B=l.length * B+B by rw [show ((l.length+1:Nat):Int)=(l.length:Int)+1 by omega,Int.add_mul,Int.one_mul]];omega
theorem z9U:∀ {l:List Int} {x:Int},(∀ y ∈ l,0≤y)→x ∈ l→x≤l.sum
 | a :: l,x,h,hx=>by
  have h1:=h a (by simp);rw [List.sum_cons]
  rcases List.mem_cons.1 hx with rfl | hx
  ·have:0≤l.sum:=by
    clear hx h1
    induction l with
    | nil=>simp
    | cons b l ih =>
     have hb:=h b (by simp);have:=ih (fun y hy=>h y (by rcases List.mem_cons.1 hy with rfl | hy;exact List.mem_cons_self;exact List.mem_cons_of_mem _ (List.mem_cons_of_mem _ hy)));rw [List.sum_cons];omega
   omega
  ·have:=z9U (fun y hy=>h y (List.mem_cons_of_mem _ hy)) hx;omega
theorem zaC {l:List Int} {c m:Nat} {gap need:Int} (hb:UpB l 50000) (hc:c+m≤l.length) (hm:1≤m∧m≤4) (hg:0≤gap∧gap≤3) (hn:need≤30) (hl:0 < z1c l c m gap need) :
  zB (z1c l c m gap need) (z00 l c m)=true∧z1c l c m gap need≤30:=by
 have hs:=(z5k (fun x (hx:x ∈ z00 l c m)=>hb.mem (z6n hx))).1;have hgm:0≤gap * ((m:Int) - 1):=Int.mul_nonneg hg.1 (by omega);have h30:z1c l c m gap need≤30:=(by unfold z1c;omega);refine ⟨?_,h30⟩;simp only [zB,wtB,Bool.and_eq_true,decide_eq_true_eq,List.all_eq_true];refine ⟨⟨by omega,by rw [z1L hc];omega⟩,fun x hx=>?_⟩;have:=hb.mem (z6n hx);omega
theorem zgt {l:List Int} {B:Int} {c m:Nat} {gap need:Int} (hb:UpB l B) (hB:B+30≤50000) (hc:c+m≤l.length) (hm:1≤m∧m≤4) (hg:0≤gap∧gap≤3) (hn:need≤30):UpB (z32 l c m gap need) (B+30):=by
 intro i hi;rw [zbt] at hi;have hbi:=hb i hi;unfold z32
 split
 ·omega
 ·rename_i hl
  obtain ⟨hok,h30⟩:=zaC (fun j hj=>⟨(hb j hj).1,by have:=(hb j hj).2;omega⟩) hc hm hg hn (by omega:0 < z1c l c m gap need);have hsl:=z1s hok;rw [z1L hc] at hsl;by_cases hin:c≤i∧i < c+m
  ·obtain ⟨j,rfl⟩:∃ j,i=c+j:=⟨i - c,by omega⟩;rw [zcM l c _ m (by omega) (by omega)];have h1:=z1y (t:=z1c l c m gap need) (l:=z00 l c m) j (by omega)
   have h2:(zt (z1c l c m gap need) (z00 l c m)).getD j 0≤30:=by
    have hsum:=z3f hok (by rw [z1L hc];omega)
    have hall:∀ x ∈ zt (z1c l c m gap need) (z00 l c m),0≤x:=fun x hx=>by
     obtain ⟨k,hk,rfl⟩:=List.mem_iff_getElem.1 hx;have:=(z1y (t:=z1c l c m gap need) (l:=z00 l c m) k hk).1
     simpa [List.getD,hk] using this
    have hle:(zt (z1c l c m gap need) (z00 l c m)).getD j 0≤(zt (z1c l c m gap need) (z00 l c m)).sum:=by
     have hmem:(zt (z1c l c m gap need) (z00 l c m)).getD j 0 ∈ zt (z1c l c m gap need) (z00 l c m):=by
      have e:(zt (z1c l c m gap need) (z00 l c m)).getD j 0=(zt (z1c l c m gap need) (z00 l c m))[j]'(by omega):=(by simp [List.getD,show j < (zt (z1c l c m gap need) (z00 l c m)).length by omega]);rw [e];exact List.getElem_mem _
     exact z9U hall hmem
    omega
   omega
  ·rw [z6A l c _ m (fun j hj e=>hin ⟨by omega,by omega⟩)];omega
def eS:ByteArray:=ByteArray.empty
def z1A (w:World) (B:Nat) (v:Value) (l:List ByteArray):Prop :=
 (v=.slice none 0 0∧l=[])∨∃ g cap cur,v=.slice (some ⟨g,0,none⟩) l.length cap∧B≤g∧w.heap[g]?=some (.cells cur 9 (0,0))∧l.length≤cap∧cap≤maxLen∧cur.size=cap∧∀ i,i < l.length→cur[i]?=some (.string (l.getD i eS))
theorem z1A.of_owns {w:World} {B:Nat} {v:Value} {l:List ByteArray} (h:w.ownsRow B 9 1 v l.length (l.map Value.string)):z1A w B v l:=by
 rcases h.2 with ⟨hv,h0⟩ | ⟨g,cap,cur,hv,hb,hg,h1,h2,h3,h4⟩
 ·exact .inl ⟨hv,List.eq_nil_of_length_eq_zero h0⟩
 ·refine .inr ⟨g,cap,cur,hv,hb,hg,h1,h2,by omega,fun i hi=>?_⟩;have:cur.toList[i]?=(l.map Value.string)[i]?:=(by rw [← h4,List.getElem?_take_of_lt (by omega)]);rw [← Array.getElem?_toList,this];simp [List.getD,hi]
theorem z1A.below {w w':World} {B C:Nat} {v:Value} {l:List ByteArray} (h:z1A w B v l) (k:Below C w w') (hC:w.heap.size≤C):z1A w' B v l:=by
 rcases h with h | ⟨g,cap,cur,hv,hb,hg,r⟩
 ·exact .inl h
 ·exact .inr ⟨g,cap,cur,hv,hb,(k.block g (Nat.lt_of_lt_of_le (bL hg) hC)).trans hg,r⟩
theorem z1A.base {w:World} {B B':Nat} {v:Value} {l:List ByteArray} (h:z1A w B v l) (hB:B'≤B):z1A w B' v l:=by
 rcases h with h | ⟨g,cap,cur,hv,hb,r⟩
 ·exact .inl h
 ·exact .inr ⟨g,cap,cur,hv,Nat.le_trans hB hb,r⟩
theorem z4o {w w':World} {base size n:Nat} {e:TypeId} {v:Value} {xs:List Value} (h:w.ownsRow base e size v n xs) (hb:Below w.heap.size w w'):w'.ownsRow base e size v n xs :=
 ⟨h.1,h.2.elim Or.inl (fun ⟨g,cap,cur,hv,hg,hc,r⟩=>Or.inr ⟨g,cap,cur,hv,hg,(hb.block g (bL hc)).trans hc,r⟩)⟩
theorem z1A.form {w:World} {B:Nat} {v:Value} {l:List ByteArray} (h:z1A w B v l):∃ a cap,v=.slice a l.length cap:=by
 rcases h with ⟨rfl,rfl⟩ | ⟨g,cap,cur,hv,_⟩
 ·exact ⟨none,0,rfl⟩
 ·exact ⟨_,_,hv⟩
theorem z1A.get {w:World} {B:Nat} {v:Value} {l:List ByteArray} (h:z1A w B v l) {i:Nat} (hi:i < l.length) :
  ∃ g cap,v=.slice (some ⟨g,0,none⟩) l.length cap∧B≤g∧g < w.heap.size∧l.length≤cap∧cap≤maxLen∧w.cell? ⟨g,i,none⟩=some (.string (l.getD i eS))∧w.frozen? ⟨g,i,none⟩=false:=by
 rcases h with ⟨_,rfl⟩ | ⟨g,cap,cur,hv,hb,hg,h1,h2,h3,h4⟩
 ·cases hi
 ·exact ⟨g,cap,hv,hb,(bL hg),h1,h2,(zf hg).trans (h4 i hi),zM hg⟩
theorem z1A.set {w:World} {B g cap n:Nat} {l:List ByteArray} (h:z1A w B (.slice (some ⟨g,0,none⟩) n cap) l) {i:Nat} (hi:i < l.length) (x:ByteArray):z1A (w.setCell ⟨g,i,none⟩ (.string x)) B (.slice (some ⟨g,0,none⟩) n cap) (l.set i x):=by
 rcases h with ⟨hv,_⟩ | ⟨g',cap',cur,hv,hb,hg,h1,h2,h3,h4⟩
 ·simp at hv
 ·simp only [Value.slice.injEq,Option.some.injEq,Addr.mk.injEq,and_true] at hv;obtain ⟨rfl,rfl,rfl⟩:=hv;refine .inr ⟨g,cap,cur.setIfInBounds i (.string x),by simp,hb,z0l hg _,by simpa using h1,h2,by simpa using h3,fun j hj=>?_⟩;rw [List.length_set] at hj;by_cases e:i=j
  ·subst e;simp [List.getD,hj,show i < cur.size by omega]
  ·rw [Array.getElem?_setIfInBounds_ne e,h4 j hj];simp [List.getD,e]
def dS:ByteArray:=ByteArray.empty
def z2M (w:World) (z:Nat) (v:Value) (ss:List ByteArray):Prop:=At w z v ss.length 1 (fun i b o=>w.cell? ⟨b,o,none⟩=some (.string (ss.getD i dS))∧(ss.getD i dS).size≤maxLen)
theorem z2M.since {w w':World} {z:Nat} {v:Value} {ss:List ByteArray} (h:z2M w z v ss) (k:z0C z w w'):z2M w' z v ss :=
 At.mono h k.size (Nat.le_refl _) (fun _ _ _ _ hb hz he=>⟨(k.cell hz hb _).trans he.1,he.2⟩)
theorem z2M.kept {w w':World} {z:Nat} {v:Value} {ss:List ByteArray} (h:z2M w z v ss) (k:Below w.heap.size w w'):z2M w' z v ss:=h.since (.of_below k)
def zkz (ss:List ByteArray) (k:Nat):Nat:=((ss.take k).map (fun x=>x.size)).sum
def zkU (ss:List ByteArray):Nat:=ss.length+zkz ss ss.length
def zjN (ss:List ByteArray):Nat→ByteArray
 | 0=>⟨#[]⟩
 | k+1=>if k=0 then ss.getD 0 dS else zjN ss k ++ ⟨#[32]⟩ ++ ss.getD k dS
theorem zf4 (v:Value) (l:List Int) (w:World) (h:zA w v l) :
  Calls Tryz.prog 146 #[v] w fun e w'=>e=.returned (.int .i64 (wrap64 l.sum))∧w'=w:=by
 obtain ⟨a,cap,rfl,hlen⟩:=h.form;have H:=Hd h;clear h;go_enter Tryz.func146,Tryz.ntmps146;go_wp2_with fail
 go_loop [3,8] (fun s i=>∃ k:Nat,k≤l.length∧i=.int .i64 k∧s=.int .i64 (wrap64 (zF l k))) (fun _ i=>l.length - (intOf i).toNat)
 case atStart=>exact ⟨0,Nat.zero_le _,rfl,by simp [zF,z6M]⟩
 case round =>
  obtain ⟨k,hk,rfl,rfl⟩:=hrel;by_cases hlt:k < l.length
  ·obtain ⟨b,off,cap',e',hc1,hc2,hbl,hx⟩:=H.out.get hlt;simp only [Value.slice.injEq,true_and] at e';obtain ⟨rfl,rfl⟩:=e';have HS:Hid (wrap64 (wrap64 (zF l k)+l.getD k 0)=wrap64 (zF l (k+1))):=(by rw [Hid,z1D hlt,z9s]);generalize l.getD k 0=x at hx HS;generalize wrap64 (zF l k)=s at HS ⊢;unfold maxLen at hc2;go_wp2
   go_round
   case rel=>exact ⟨k+1,by omega,by go_num,by rw [← HS.out]⟩
   case measure=>simp [intOf];omega
  ·obtain rfl:k=l.length:=by omega
   have HE:=Hd (z1w l);go_wp2;go_ret;exact ⟨by rw [← HE.out];rfl,rfl⟩
theorem z5I (v:Value) (l:List Int) (gap:Int) (w:World) (h:zA w v l) :
  Calls Tryz.prog 123 #[v,.int .i64 gap] w fun e w'=>e=.returned (.int .i64 (z1I l gap))∧w'=w:=by
 obtain ⟨a,cap,rfl,hlen⟩:=h.form;have H:=Hd h;clear h;by_cases h0:l.length=0
 ·have HV:=Hd (zc5 h0 gap);rw [h0] at H ⊢;clear h0;go_enter Tryz.func123,Tryz.ntmps123;go_wp2;go_ret;exact ⟨by rw [HV.out];rfl,rfl⟩
 ·have HV:Hid (z1I l gap=wrap64 (wrap64 l.sum+wrap64 (gap * ((l.length:Int) - 1)))):=(by rw [Hid,z3d h0,z9s,zfv]);have h0':((l.length:Int) == 0)=false:=beq_eq_false_iff_ne.2 (by omega);have KS:=Hd (zf4 _ l w H.out);go_enter Tryz.func123,Tryz.ntmps123;go_wp2_with fail
  refine KS.out.mono ?_;rintro e w1 ⟨rfl,rfl⟩;go_wp2;go_ret;exact ⟨by rw [HV.out];rfl,rfl⟩
def z1T (x:GC) (k:Nat):Bool:=z0J (k:Int) x.col x.cols
def z2m (l:List Int) (gap:Int) (x:GC):Int:=z1I (z2o l (z1T x) l.length) gap
theorem z73:(Tryz.prog.info? 3).map (fun i=>(i.zero,i.size,i.bytes))=some (some (Value.int .i64 0),1,8):=by kernel_rfl
theorem z3h {w w3 w4:World} {B n:Nat} {xs:List Value} {x:Int} {o:Value} (hB:w.heap.size≤B) (hO:w3.ownsRow B 3 1 o n xs) (K:Below w.heap.size w w3)
  (hg:(w3.alloc (.cells #[.int .i64 x] 3)).grownBy w4 o.ownBlock):Below w.heap.size w w4∧∀ g,g < B→g < w3.heap.size→w4.heap[g]?=w3.heap[g]?:=by
 have hA:=ze K (.cells #[.int .i64 x] 3);refine ⟨⟨hg.os.trans hA.os,hg.tape.trans hA.tape,hg.output.trans hA.output,Nat.le_trans hA.size hg.size,fun k hk=>(hg.block k (Nat.lt_of_lt_of_le hk hA.size) (fun hb=>?_)).trans (hA.block k hk)⟩,fun k hk hl=>(hg.block k (by simp;omega) (fun hb=>?_)).trans (Below.heap_alloc _ _ _ hl)⟩
 ·have:=(hO.lt k hb.symm).1;omega
 ·have:=(hO.lt k hb.symm).1;omega
theorem z9h {l:List Int} {p:Nat→Bool} {k:Nat} (h:p k=true):z2o l p (k+1)=z2o l p k ++ [l.getD k 0]:=by rw [z2o,if_pos h]
theorem zaK {l:List Int} {p:Nat→Bool} {k:Nat} (h:p k=false):z2o l p (k+1)=z2o l p k:=by rw [z2o,if_neg (by rw [h];simp)]
theorem z91 (v:Value) (l:List Int) (hl:l.length≤1048576) (gap:Int) (x:GC) (hx:GOk x) (w:World) (h:zA w v l) :
  Calls Tryz.prog 103 #[v,.int .i64 gap,.agg #[.int .i64 x.row,.int .i64 x.col,.int .i64 x.rows,.int .i64 x.cols,.int .i64 x.ins]] w fun e w'=>e=.returned (.int .i64 (z2m l gap x))∧Below w.heap.size w w':=by
 obtain ⟨i0,hi,hz0,hz1,hz2⟩:=info_parts z73;obtain ⟨a,cap,rfl,hlen⟩:=h.form;obtain ⟨_,b1,_,b3,_⟩:=hx;have K0:=ze (Below.refl w.heap.size w) (.cells #[.int .i64 x.row,.int .i64 x.col,.int .i64 x.rows,.int .i64 x.cols,.int .i64 x.ins] 51);have X0:=zj w (.cells #[.int .i64 x.row,.int .i64 x.col,.int .i64 x.rows,.int .i64 x.cols,.int .i64 x.ins] 51);have H:=Hd h;have HR:=Hd (fun (k:Nat) (hk:k≤1048576)=>z8P (k:Int) x.col x.cols (by unfold I64;omega) b1 b3);clear h b1 b3;go_enter Tryz.func103,Tryz.ntmps103;go_wp2_with fail
 go_loopw [7,12] (fun o i W=>∃ k:Nat,i=.int .i64 k∧k≤l.length∧Hid (W.ownsRow (w.heap.size+1) 3 1 o (z2o l (z1T x) k).length ((z2o l (z1T x) k).map (Value.int .i64)))∧Hid (Below w.heap.size w W)∧Hid (W.heap[w.heap.size]?=some (.cells #[.int .i64 x.row,.int .i64 x.col,.int .i64 x.rows,.int .i64 x.cols,.int .i64 x.ins] 51))) (fun _ i _=>l.length - (intOf i).toNat)
 case atStart=>exact ⟨0,rfl,Nat.zero_le _,⟨by simp [z2o],.inl ⟨rfl,rfl⟩⟩,K0,X0⟩
 case round =>
  obtain ⟨k,rfl,hk,HO,HB,HX⟩:=hrel;have c1:wr.cell? ⟨w.heap.size,1,none⟩=some (.int .i64 x.col):=zf HX.out;have c3:wr.cell? ⟨w.heap.size,3,none⟩=some (.int .i64 x.cols):=zf HX.out;by_cases hlt:k < l.length
  ·obtain ⟨b,off,cap',e',hc1,hc2,hbl,hy⟩:=(H.out.kept HB.out).get hlt;simp only [Value.slice.injEq,true_and] at e';obtain ⟨rfl,rfl⟩:=e';unfold maxLen at hc2;have KR:=Hd (HR.out k (by omega) wr);have hol:=zc4 l (z1T x) k
   cases hin:z1T x k with
   | false =>
    have HL:=Hd (zaK (l:=l) hin);have hin':z0J (k:Int) x.col x.cols=false:=hin;rw [hin'] at KR;clear hin hin';generalize l.getD k 0=y at hy;go_wp2_with fail
    refine KR.out.mono ?_;rintro e w1 ⟨rfl,rfl⟩;go_wp2;go_roundw
    case rel=>exact ⟨k+1,by go_num,by omega,by rw [HL.out];exact HO,HB,HX⟩
    case measure=>simp [intOf];omega
   | true =>
    have HL:=Hd (z9h (l:=l) hin);have hin':z0J (k:Int) x.col x.cols=true:=hin;rw [hin'] at KR;clear hin hin';generalize l.getD k 0=y at hy HL;generalize z2o l (z1T x) k=xs at HO HL hol;go_wp2_with fail
    refine KR.out.mono ?_;rintro e w1 ⟨rfl,rfl⟩;have hO4:=HO.out;have hsz:w.heap.size < w1.heap.size:=(bL HX.out);go_wp2_with (at_builtin;refine wpList_append_own _ rfl _ _ 27 rfl (w.heap.size+1) 3 i0 (.int .i64 0) 1 8 Tryz.underlying27 hi hz0 hz1 hz2 rfl (by decide) _ _ _ rfl (hO4.alloc _) ⟨w1.heap.size,0,none⟩ 1 1 [.int .i64 y] rfl rfl ?c1 ?c2 ?c3 ?c4 ?c5 ?_)
    case c1 =>
     intro i u hi
     match i,hi with
     | 0,hi=>simp at hi;subst hi;simp [Addr.add]
    case c2=>intro u hu;simp at hu;subst hu;rfl
    case c3=>unfold maxLen;omega
    case c4=>omega
    case c5=>simp;omega
    intro v' w5 hown' hgrow' _;obtain ⟨hB5,hX5⟩:=z3h (Nat.le_succ _) hO4 HB.out hgrow';have HB5:=Hd hB5;have HX5:=Hd ((hX5 w.heap.size (Nat.lt_succ_self _) (bL HX.out)).trans HX.out);have HO5:Hid (w5.ownsRow (w.heap.size+1) 3 1 v' (xs ++ [y]).length ((xs ++ [y]).map (Value.int .i64))):=(by rw [List.length_append,List.map_append];exact hown');obtain ⟨g',cap'',rfl⟩:=Joins.ownsRow_form hown' (by omega);clear hown' hgrow' hO4 hB5 hX5 HO HB HX;go_wp2;go_roundw
    case rel=>exact ⟨k+1,by go_num,by omega,by rw [HL.out];exact HO5,HB5,HX5⟩
    case measure=>simp [intOf];omega
  ·obtain rfl:k=l.length:=by omega
   have hI:=(zq.of_owns HO.out).at;obtain ⟨aa,cc,rfl,_⟩:=hI.form;have KA:=Hd (z5I _ _ gap wr hI);have HV:Hid (z2m l gap x=z1I (z2o l (z1T x) l.length) gap):=rfl;clear hI;go_wp2_with fail
   refine KA.out.mono ?_;rintro e w1 ⟨rfl,rfl⟩;go_wp2;go_ret;exact ⟨rfl,HB.out⟩
def sd (ps:List (Int × Int)) (q:Int):Int × Int:=if inB q 0 (ps.length - 1)=true then ps.getD q.toNat (0,0) else (0,0)
theorem z9X {ps:List (Int × Int)} {q:Int} (h:inB q 0 (ps.length - 1)=false):sd ps q=(0,0):=by unfold sd;rw [if_neg (by rw [h];simp)]
theorem z8h {ps:List (Int × Int)} {k:Nat} (h:k < ps.length):sd ps k=ps.getD k (0,0):=by unfold sd;rw [if_pos (z4r (by omega) (by omega)),Int.toNat_natCast]
def sdT (t:T) (q:Int):Int × Int:=if zC t=true then sd t.cols q else (0,0)
def z2s (s:ByteArray):Nat:=if z0k s=true then s.size else 0
theorem z8j (s:ByteArray):z2s s≤30:=by
 unfold z2s
 split
 ·rename_i h
  exact ((z2t s).1 h).1
 ·omega
def zk (P:Nat→Bool) (n:Nat):List Nat:=(List.range n).filter P
def z0a (l:List Int) (P:Nat→Bool) (n:Nat):List Int:=(zk P n).map (fun i=>l.getD i 0)
theorem z2b (l:List Int) (P:Nat→Bool) (n:Nat):(z0a l P n).length=(zk P n).length:=by simp [z0a]
theorem z8l (P:Nat→Bool) (n:Nat):zk P (n+1)=zk P n ++ if P n=true then [n] else []:=by
 unfold zk;rw [List.range_succ,List.filter_append]
 congr 1
 by_cases h:P n=true
 ·simp [h]
 ·simp [h]
theorem z3o {P:Nat→Bool} {n p:Nat} (h:p < (zk P n).length):(zk P n)[p] < n∧P (zk P n)[p]=true:=by
 have:=List.getElem_mem h;unfold zk at this;rw [List.mem_filter,List.mem_range] at this;exact this
theorem z3i {P:Nat→Bool} {n p q:Nat} (hp:p < (zk P n).length) (hq:q < (zk P n).length) (h:p < q):(zk P n)[p] < (zk P n)[q] :=
 List.pairwise_iff_getElem.1 (List.Pairwise.filter P List.pairwise_lt_range) p q hp hq h
theorem z3Q {l:List Int} {P:Nat→Bool} {n p:Nat} (h:p < (zk P n).length):(z0a l P n).getD p 0=l.getD (zk P n)[p] 0:=by
 simp [z0a,List.getD,h]
theorem z5n {l:List Int} {P:Nat→Bool}:∀ n,n≤l.length→(∀ i,i < n→P i=false→l.getD i 0=0)→(z0a l P n).sum=zF l n
 | 0,_,_=>by simp [z0a,zk,zF]
 | n+1,hn,hz=>by
  have ih:=z5n n (by omega) (fun i hi=>hz i (by omega))
  have e:z0a l P (n+1)=z0a l P n ++ if P n=true then [l.getD n 0] else []:=by
   unfold z0a;rw [z8l,List.map_append]
   congr 1
   split <;> rfl
  rw [e,List.sum_append,ih,z1D (by omega)]
  cases hP:P n with
  | true=>simp
  | false=>rw [hz n (by omega) hP];simp
theorem zd2:∀ {a b:List Int},a.length=b.length→(∀ i,i < a.length→a.getD i 0≤b.getD i 0)→∀ p,p < a.length→a.getD p 0 < b.getD p 0→a.sum < b.sum
 | [],_,_,_,p,hp,_=>absurd hp (Nat.not_lt_zero _)
 | _ :: _,[],h,_,_,_,_=>absurd h (by simp)
 | x :: a,y :: b,h,hle,p,hp,hlt=>by
  have hab:a.length=b.length:=(by simpa using h);have h0:x≤y:=(by have:=hle 0 (by simp);simpa using this);have hr:∀ i,i < a.length→a.getD i 0≤b.getD i 0:=fun i hi=>by have:=hle (i+1) (by simpa using hi);simpa using this
  rw [List.sum_cons,List.sum_cons]
  cases p with
  | zero =>
   have h1:x < y:=(by simpa using hlt)
   have h2:a.sum≤b.sum:=by
    clear hlt hp hle h h0 h1
    induction a generalizing b with
    | nil=>cases b with
     | nil=>exact Int.le_refl _
     | cons _ _=>simp at hab
    | cons u a ih=>cases b with
     | nil=>simp at hab
     | cons v b =>
      have h3:u≤v:=(by have:=hr 0 (by simp);simpa using this);have:=ih (b:=b) (by simpa using hab) (fun i hi=>by have:=hr (i+1) (by simpa using hi);simpa using this);rw [List.sum_cons,List.sum_cons];omega
   omega
  | succ p =>
   have:=zd2 hab hr p (by simpa using hp) (by simpa using hlt);omega
theorem zbB {a b:List Int} (hl:a.length=b.length) (hs:a.sum=b.sum) {p:Nat} (hp:p < a.length) (h:a.getD p 0 < b.getD p 0):∃ q,q < a.length∧b.getD q 0 < a.getD q 0:=by
 apply Classical.byContradiction;intro hn;have:=zd2 hl (fun i hi=>Int.not_lt.1 (fun hlt=>hn ⟨i,hi,hlt⟩)) p hp h;omega
theorem zd3 {l:List Int} (h:l.sum ≠ 0):wts l=l:=by unfold wts;rw [if_neg h]
theorem zbC {t:Int} {l:List Int} {P:Nat→Bool} (hok:zB t l=true) (hz:∀ i,i < l.length→P i=false→l.getD i 0=0) (hs:l.sum ≠ 0) :
  zB t (z0a l P l.length)=true∧zt t (z0a l P l.length)=z0a (zt t l) P l.length:=by
 obtain ⟨ht,hlen,hw⟩:=z04 hok;have hsum:(z0a l P l.length).sum=l.sum:=(by rw [z5n l.length (Nat.le_refl _) hz,z1w]);have hs':(z0a l P l.length).sum ≠ 0:=(by rw [hsum];exact hs);have hnl:(zk P l.length).length≤l.length:=(by unfold zk;have:=List.length_filter_le P (List.range l.length);simpa using this)
 have hok':zB t (z0a l P l.length)=true:=by
  simp only [zB,Bool.and_eq_true,decide_eq_true_eq,List.all_eq_true];refine ⟨⟨by simp only [wtB,decide_eq_true_eq];exact ht,by rw [z2b];omega⟩,fun x hx=>?_⟩;unfold z0a at hx;obtain ⟨i,hi,rfl⟩:=List.mem_map.1 hx;unfold zk at hi;have hil:=List.mem_range.1 (List.mem_filter.1 hi).1;rw [show l.getD i 0=l[i] by simp [List.getD,hil]];exact List.all_eq_true.1 hw _ (List.getElem_mem hil)
 refine ⟨hok',?_⟩
 have hpos:0 < l.length:=by
  cases l with
  | nil=>simp at hs
  | cons _ _=>simp
 have hpos':0 < (z0a l P l.length).length:=by
  cases h:z0a l P l.length with
  | nil=>rw [h] at hs';simp at hs'
  | cons _ _=>simp
 have hL:=z1s hok;have hL':=z1s hok'
 have hsh:(z0a (zt t l) P l.length).sum=(zt t l).sum:=by
  have:=z5n (l:=zt t l) (P:=P) l.length (by omega) (fun i hi hP=>z5U hok hs hi (hz i hi hP));rw [this,← hL,z1w]
 have hss:(zt t (z0a l P l.length)).sum=(z0a (zt t l) P l.length).sum:=(by rw [hsh,z3f hok hpos,z3f hok' hpos']);have hll:(zt t (z0a l P l.length)).length=(z0a (zt t l) P l.length).length:=(by rw [hL',z2b,z2b]);have hw1:=zd3 hs;have hw2:=zd3 hs'
 -- the two orders are one
 have hord:∀ p q,(hp:p < (zk P l.length).length)→(hq:q < (zk P l.length).length)→tB (cl t (z0a l P l.length) p) (cl t (z0a l P l.length) q)=tB (cl t l (zk P l.length)[p]) (cl t l (zk P l.length)[q]):=by
  intro p q hp hq;rw [Bool.eq_iff_iff,z6k,z6k];simp only [cl,hsum,z3Q hp,z3Q hq]
  have hm:((p:Int) < (q:Int)) ↔ (((zk P l.length)[p]:Nat):Int) < (((zk P l.length)[q]:Nat):Int):=by
   constructor
   ·intro h;have:=z3i hp hq (by omega);omega
   ·intro h
    rcases Nat.lt_trichotomy p q with h1 | h1 | h1
    ·omega
    ·subst h1;omega
    ·have:=z3i hq hp h1;omega
  have he:((p:Int)=(q:Int)) ↔ (((zk P l.length)[p]:Nat):Int)=(((zk P l.length)[q]:Nat):Int):=by
   constructor
   ·intro h;have:p=q:=by omega
    subst this;rfl
   ·intro h
    rcases Nat.lt_trichotomy p q with h1 | h1 | h1
    ·have:=z3i hp hq h1;omega
    ·omega
    ·have:=z3i hq hp h1;omega
  rw [hm,he]
 have hA:∀ p,(hp:p < (zk P l.length).length)→(zt t (z0a l P l.length)).getD p 0=t * l.getD (zk P l.length)[p] 0 / l.sum+if cl t (z0a l P l.length) p ∈ (zW t (z0a l P l.length)).take (z2v t (z0a l P l.length)) then 1 else 0:=by
  intro p hp;rw [z6z hok' (by rw [z2b];exact hp),hw2,hsum,z3Q hp]
 have hB:∀ p,(hp:p < (zk P l.length).length)→(z0a (zt t l) P l.length).getD p 0=t * l.getD (zk P l.length)[p] 0 / l.sum+if cl t l (zk P l.length)[p] ∈ (zW t l).take (z2v t l) then 1 else 0:=by
  intro p hp;rw [z3Q hp,z6z hok (z3o hp).1,hw1]
 -- one that got z0j here and one that got z0j there cannot both be
 have hno:∀ p q,(hp:p < (zk P l.length).length)→(hq:q < (zk P l.length).length)→(zt t (z0a l P l.length)).getD p 0 < (z0a (zt t l) P l.length).getD p 0→(z0a (zt t l) P l.length).getD q 0 < (zt t (z0a l P l.length)).getD q 0→False:=by
  intro p q hp hq h1 h2;rw [hA p hp,hB p hp] at h1;rw [hA q hq,hB q hq] at h2;have hpl:p < (z0a l P l.length).length:=(by rw [z2b];exact hp);have hql:q < (z0a l P l.length).length:=(by rw [z2b];exact hq);by_cases a1:cl t (z0a l P l.length) p ∈ (zW t (z0a l P l.length)).take (z2v t (z0a l P l.length))
  ·rw [if_pos a1] at h1;split at h1 <;> omega
  by_cases a2:cl t l (zk P l.length)[q] ∈ (zW t l).take (z2v t l)
  ·rw [if_pos a2] at h2;split at h2 <;> omega
  by_cases b1:cl t l (zk P l.length)[p] ∈ (zW t l).take (z2v t l)
  case neg=>rw [if_neg a1,if_neg b1] at h1;omega
  by_cases b2:cl t (z0a l P l.length) q ∈ (zW t (z0a l P l.length)).take (z2v t (z0a l P l.length))
  case neg=>rw [if_neg a2,if_neg b2] at h2;omega
  have hpq:p ≠ q:=fun e=>by subst e;exact a1 b2
  have htot:tB (cl t l (zk P l.length)[p]) (cl t l (zk P l.length)[q])=true∨tB (cl t l (zk P l.length)[q]) (cl t l (zk P l.length)[p])=true:=by
   rw [z6k,z6k];simp only [cl]
   have:(zk P l.length)[p] ≠ (zk P l.length)[q]:=by
    rcases Nat.lt_or_gt_of_ne hpq with h | h
    ·have:=z3i hp hq h;omega
    ·have:=z3i hq hp h;omega
   omega
  rcases htot with h | h
  ·rw [← hord p q hp hq] at h;exact a1 (zbr hpl h b2)
  ·exact a2 (zbr (z3o hq).1 h b1)
 apply List.ext_getElem hll;intro p h1 h2;have hp:p < (zk P l.length).length:=(by rw [hL',z2b] at h1;exact h1);have e1:(zt t (z0a l P l.length))[p]=(zt t (z0a l P l.length)).getD p 0:=(by simp [List.getD,h1]);have e2:(z0a (zt t l) P l.length)[p]=(z0a (zt t l) P l.length).getD p 0:=(by simp [List.getD,h2]);rw [e1,e2];apply Classical.byContradiction;intro hne
 rcases Int.lt_or_gt_of_ne hne with h | h
 ·obtain ⟨q,hq,hlt⟩:=zbB hll hss h1 h;exact hno p q hp (by rw [hL',z2b] at hq;exact hq) h hlt
 ·obtain ⟨q,hq,hlt⟩:=zbB hll.symm hss.symm h2 h;have hq':q < (zk P l.length).length:=(by rw [z2b] at hq;exact hq);exact hno q p hq' hp hlt h
def z0x (t:Int) (l:List Int):List Int:=if zB t l=true then (if l.sum≤t then l else zt t l) else []
def z2e (t:Int) (l:List Int):Int:=if zB t l=true then (if l.sum≤t then t - l.sum else 0) else 0
theorem z3R {t:Int} {l:List Int} (h:zB t l=true) (hs:l.sum≤t):z0x t l=l∧z2e t l=t - l.sum:=by simp [z0x,z2e,h,hs]
theorem z30 {t:Int} {l:List Int} (h:zB t l=true) (hs:¬ l.sum≤t):z0x t l=zt t l∧z2e t l=0:=by simp [z0x,z2e,h,hs]
theorem z8m {x:Value} {a b:Int} (h:a=b):Ending.returned (.tuple #[x,.int .i64 a])=.returned (.tuple #[x,.int .i64 b]):=by rw [h]
end
end Go.Proofs.YtggmjiddadjilahGreat
