/-
  PROVED HERE: what the library's Repeat makes of one 1: as many as are asked, in memory of its own. Also: 23 more texts of the same proof.
-/
import Derived.Test.YtggmjiddadjilahGreatJ20
import Derived.Test.YtggmjiddadjilahGreatJ17
import Derived.Laws.CopyOwn
import Derived.Shelf.Bits.Mul64
import Derived.Shelf.Lay
set_option maxRecDepth 1000000
set_option maxHeartbeats 40000000
open Go.Proofs.Tryz
namespace Go.Proofs.YtggmjiddadjilahGreat
open Value (int)
open IntKind (i64)
section
open Go.RowKit Go.Shelf Go.Lib
shelf_lay Lays.n212 Nm 212 at Tryz as bitsMul
def za1 (L:List Value) (k:Nat):Prop:=∀ i,i < k->L[i]?=some (int i64 1)
theorem zbA {L:List Value} {k c:Nat} (h:za1 L k) (hc:k+c<=L.length):za1 (splice L k (List.replicate c (int i64 1))) (k+c):=by
 intro i hi;unfold splice;by_cases e:i < k
 ·rw [List.getElem?_append_left (by simp;omega),List.getElem?_take_of_lt e];exact h i e
 ·rw [List.getElem?_append_right (by simp;omega),List.getElem?_append_left (by simp;omega)];rw [List.getElem?_replicate,if_pos (by rw [List.length_take];omega)]
theorem uI:(prog.info? 3).map (·.size)=some 1:=by kernel_rfl
theorem zff (b n:Nat) (h1:1<=n) (hn:n<=100) (w:World) (hb:b < w.heap.size) (hx:w.cell? ⟨b,0,none⟩=some (int i64 1)) :
  Calls prog 163 #[.slice (some ⟨b,0,none⟩) 1 1,int i64 n] w λe w'=>∃ a cap,e=.returned (.slice a n cap)/\zq w' w.heap.size w'.heap.size (.slice a n cap) (List.replicate n 1)/\Below w.heap.size w w':=by
 have hmul:=λW=>Any.bits_Mul bitsMul 1 n (by omega) (by omega) W;change ∀ W,Calls prog 167 _ _ _ at hmul;have em1:1 * n / 18446744073709551616=0:=(by omega);have em2:1 * n % 18446744073709551616=n:=(by omega);rw [em1,em2] at hmul;have HM:=O hmul;have hmk:=z5I n (by omega);have hn0:¬ (n:Int) < 0:=(by omega);clear hmul em1 em2;go_enter func163,ntmps163;go_wp2_with fail
 refine (HM.out _).mono ?_;rintro e w1 ⟨rfl,e1⟩
 cases e1
 have hcp:=run_copy_row (P:=prog) (w.alloc (.cells (z1l n) 3)) 27 27 3 3 w.heap.size 0 n n ⟨b,0,none⟩ 1 1 (z1l n) 3 [int i64 1] underlying27 uI (zj _ _) (by simp [Nat.min_def];omega)
  (λj v hv=>by
   match j,hv with
   | 0,hv=>simp at hv;subst hv;rw [show (⟨b,0,none⟩:Addr).add 0=⟨b,0,none⟩ from rfl];exact ((ze (Below.refl w.heap.size w) _).cell (p:=⟨b,0,none⟩) hb).trans hx)
  (by rw [z6F];simp;omega) (λv hv=>by simp at hv;subst hv;rfl)
 obtain ⟨w2,hw2⟩:∃ w2,w2=(w.alloc (.cells (z1l n) 3)).setRow w.heap.size ((z1l n).toList.take 0 ++ [Value.int .i64 1] ++ (z1l n).toList.drop (0+[Value.int .i64 1].length)).toArray:=⟨_,rfl⟩;rw [<-hw2] at hcp
 have HG:Hid (w2.heap[w.heap.size]?=some (.cells (splice (z1l n).toList 0 [int i64 1]).toArray 3 (0,0))):=by
  rw [hw2];show _=_;rw [setRow_heap _ _ _ _ _ _ (zj _ _)];simp [splice]
 have hB:Below w.heap.size w w2:=(by rw [hw2];exact below_setRow (ze bR _) lR _);clear hw2;go_wp2_with fail
 clear hcp;have HB:=O hB
 have HO:Hid (za1 (splice (z1l n).toList 0 [int i64 1]) 1):=by
  have:=zbA (L:=(z1l n).toList) (k:=0) (c:=1) (λi hi=>absurd hi (Nat.not_lt_zero _)) (by rw [Array.length_toList,z6F];omega);exact this
 have hL0:(z1l n).toList.length=n:=(by rw [Array.length_toList,z6F]);have hL:(splice (z1l n).toList 0 [int i64 1]).length=n:=(by rw [length_splice _ _ _ (by rw [hL0];exact h1),hL0]);have hz2:w.heap.size < w2.heap.size:=(bL HG.out);generalize splice (z1l n).toList 0 [int i64 1]=L0 at HG HO hL;clear hB hmk;go_loopw [8] (λs8 W=>∃ (k:Nat) (L:List Value),s8=int i64 k/\1<=k/\k<=n/\L.length=n/\Hid (W.heap[w.heap.size]?=some (.cells L.toArray 3 (0,0)))/\Hid (za1 L k)/\Hid (Below w.heap.size w W)/\w.heap.size < W.heap.size) (λs8 _=>n - (intOf s8).toNat)
 case atStart=>exact ⟨1,L0,rfl,lR,h1,hL,HG,HO,HB,hz2⟩
 case round =>
  clear HG HO HB hz2 hL;obtain ⟨k,L,rfl,hk1,hk2,hL,HG,HO,HB,hz⟩:=hrel;have HL:=O hL;clear hL;by_cases hlt:k < n
  ·have hltz:(k:Int) < (n:Int):=(by omega);obtain ⟨c,hc⟩:∃ c,c=min k (n - k):=⟨_,rfl⟩;have hc1:1<=c:=(by rw [hc,Nat.min_def];split <;> omega);have hc2:k+c<=n:=(by rw [hc,Nat.min_def];split <;> omega);have HC:=O hc;have HN:=O (zbA (c:=c) HO.out (by rw [HL.out];exact hc2));have HL2:Hid ((splice L k (List.replicate c (int i64 1))).length=n):=(by show _=_;rw [length_splice _ _ _ (by rw [HL.out];simp;omega)];exact HL.out);obtain ⟨cs,hcs⟩:∃ cs:List Value,cs=List.replicate c (int i64 1):=⟨_,rfl⟩;rw [<-hcs] at HN HL2;have hcl:cs.length=c:=(by rw [hcs];simp);have HCS:=O hcs;have HCL:=O hcl;clear hc hcs hcl
   have hcp:=run_copy_row (P:=prog) wr.drew 27 27 3 3 w.heap.size k (n - k) (n - k) ⟨w.heap.size,0,none⟩ k n L.toArray 3 cs underlying27 uI HG.out (by rw [HCL.out,HC.out])
    (λj v hv=>by
     have hj:j < cs.length:=(List.getElem?_eq_some_iff.1 hv).1;rw [HCL.out] at hj;rw [HCS.out,List.getElem?_replicate,if_pos hj] at hv;rw [Go.WideShapes.add_plain,Nat.zero_add];have e:c<=k:=(by rw [HC.out];exact Nat.min_le_left _ _);show wr.cell? _=_;rw [zf HG.out,List.getElem?_toArray,HO.out j (by omega)];exact hv)
    (by rw [HCL.out];simp;rw [HL.out];exact hc2) (λv hv=>by rw [HCS.out] at hv;rw [(List.mem_replicate.1 hv).2];rfl)
   rw [HCL.out] at hcp;obtain ⟨w3,hw3⟩:∃ w3,w3=wr.drew.setRow w.heap.size (L.toArray.toList.take k ++ cs ++ L.toArray.toList.drop (k+c)).toArray:=⟨_,rfl⟩;rw [<-hw3] at hcp
   have HG3:Hid (w3.heap[w.heap.size]?=some (.cells (splice L k cs).toArray 3 (0,0))):=by
    rw [hw3];show _=_;rw [setRow_heap wr.drew _ _ _ _ _ HG.out];simp [splice,HCL.out]
   have HB3:Hid (Below w.heap.size w w3):=(by rw [hw3];exact below_setRow (z0X HB.out) lR _);have hz3:w.heap.size < w3.heap.size:=(bL HG3.out);clear hw3;generalize splice L k cs=L3 at HG3 HN HL2;have hk0:(0:Int)<=(k:Int):=(by omega);have enk:((n:Int) - (k:Int)).toNat=n - k:=(by omega);go_wp2_with fail
   go_region
   all_goals
    go_wp2;go_roundw
    case rel=>exact ⟨k+c,L3,by go_num,by omega,hc2,HL2.out,HG3,HN,HB3,hz3⟩
    case measure=>simp [intOf];omega
  ·obtain rfl:k=n:=by omega
   go_wp2;go_ret
   exact ⟨_,_,rfl,.inr ⟨w.heap.size,k,L.toArray,by simp,lR,hz,HG.out,by simp,by unfold maxLen;omega,by simpa using HL.out,λi hi=>by
    rw [List.length_replicate] at hi;rw [List.getElem?_toArray,HO.out i hi];simp [List.getD,hi]⟩,HB.out⟩
end
section
open Go.RowKit
theorem z7S (v:Value) (l:List Int) (hl:l.length<=1000) (hw:l.all wtB=true) (w:World) (h:zA w v l) :
  Calls prog 146 #[v] w λe w'=>e=.returned (int i64 l.sum)/\w'=w:=by
 obtain ⟨a,cap,rfl,_⟩:=h.form;have H:=O h;have HW:=O (z3E hw);have HG:=O (λi hi=>z2P (i:=i) hw hi);clear h hw;go_enter func146,ntmps146;go_wp2_with fail
 go_loop [3,8] (λs i=>∃ k:Nat,k<=l.length/\i=int i64 k/\s=int i64 (zK l k)) (λ_ i=>l.length - (intOf i).toNat)
 case atStart=>exact ⟨0,nZ,rfl,by simp [zK]⟩
 case round =>
  obtain ⟨k,hk,rfl,rfl⟩:=hrel;by_cases hlt:k < l.length
  ·obtain ⟨b,off,cap',e',hc1,hc2,hbl,hx⟩:=H.out.get hlt;simp only [Value.slice.injEq,true_and] at e';obtain ⟨rfl,rfl⟩:=e';have hb1:=HW.out k hk;have hb2:=HG.out k hlt;have HS:=O (z1w hlt);generalize l.getD k 0=x at hx HS hb2;generalize zK l k=s at HS hb1;unfold maxLen at hc2;go_wp2
   go_round
   case rel=>exact ⟨k+1,by omega,by go_num,by rw [HS.out]⟩
   case measure=>simp [intOf];omega
  ·obtain rfl:k=l.length:=by omega
   have HE:=O (z1t l);go_wp2;go_ret;exact ⟨by rw [<-HE.out];rfl,rfl⟩
theorem zgL (t:Int) (v:Value) (l:List Int) (w:World) (h:zA w v l) :
  Calls prog 166 #[int i64 t,v] w λe w'=>e=.returned (.bool (zI t l))/\w'=w:=by
 obtain ⟨a,cap,rfl,hlen⟩:=h.form;have H:=O h;clear h;have HC:=O (λn=>zW n 0 100000);by_cases ht:wtB t=true
 ·by_cases hl:(100:Int) < (l.length:Int)
  ·have HF:Hid (zI t l=false):=(by show _=_;simp [zI];omega);go_enter func166,ntmps166;go_wp2_with fail
   refine (HC.out _ _).mono ?_;rintro e w1 ⟨rfl,rfl⟩;rw [z7X,ht];go_wp2;go_ret;exact ⟨zV HF.out.symm,rfl⟩
  ·go_enter func166,ntmps166;go_wp2_with fail
   refine (HC.out _ _).mono ?_;rintro e w1 ⟨rfl,rfl⟩;rw [z7X,ht];go_wp2_with fail
   go_loop [17] (λi=>∃ k:Nat,k<=l.length/\i=int i64 k/\Hid ((l.take k).all wtB=true)) (λi=>l.length - (intOf i).toNat)
   case atStart=>exact ⟨0,nZ,rfl,by simp [Hid]⟩
   case round =>
    obtain ⟨k,hk,rfl,HA⟩:=hrel;by_cases hlt:k < l.length
    ·obtain ⟨b,off,cap',e',hc1,hc2,hbl,hx⟩:=H.out.get hlt;simp only [Value.slice.injEq,true_and] at e';obtain ⟨rfl,rfl⟩:=e';unfold maxLen at hc2;by_cases hy:wtB (l.getD k 0)=true
     ·have HN:=O (zhR hlt HA.out hy);generalize l.getD k 0=x at hx hy;go_wp2_with fail
      refine (HC.out _ _).mono ?_;rintro e w1 ⟨rfl,rfl⟩;rw [z7X,hy];go_wp2
      go_round
      case rel=>exact ⟨k+1,by omega,by go_num,HN⟩
      case measure=>simp [intOf];omega
     ·have hy':=eq_false_of_ne_true hy;have HF:Hid (zI t l=false):=(by show _=_;simp only [zI,zj9 hlt hy',Bool.and_false]);generalize l.getD k 0=x at hx hy';go_wp2_with fail
      refine (HC.out _ _).mono ?_;rintro e w1 ⟨rfl,rfl⟩;rw [z7X,hy'];go_wp2;go_ret;exact ⟨zV HF.out.symm,rfl⟩
    ·obtain rfl:k=l.length:=by omega
     have HF:Hid (zI t l=true):=(by have h1:=HA.out;rw [List.take_length] at h1;show _=_;simp only [zI,ht,h1,Bool.and_true,Bool.true_and,decide_eq_true_eq];omega);go_wp2;go_ret;exact ⟨zV HF.out.symm,rfl⟩
 ·have ht':=eq_false_of_ne_true ht;have HF:Hid (zI t l=false):=(by show _=_;simp only [zI,ht',Bool.false_and]);go_enter func166,ntmps166;go_wp2_with fail
  refine (HC.out _ _).mono ?_;rintro e w1 ⟨rfl,rfl⟩;rw [z7X,ht'];go_wp2;go_ret;exact ⟨zV HF.out.symm,rfl⟩
def z7v (t:Int) (l:List Int) (k:Int):Int:=if zI t l && zM k 0 (l.length - 1) && l.sum != 0 then t * l.getD k.toNat 0 / l.sum else 0
theorem z6c {t:Int} {l:List Int} {k:Int} (h1:zI t l=true) (h2:zM k 0 (l.length - 1)=true) (h3:l.sum ≠ 0):z7v t l k=t * l.getD k.toNat 0 / l.sum:=by
 rw [z7v,if_pos];simp [h1,h2,h3]
theorem z5N {t x:Int} (h1:0<=t/\t<=100000) (h2:0<=x/\x<=100000):0<=t * x/\t * x<=10000000000 :=
 ⟨Int.mul_nonneg h1.1 h2.1,Int.le_trans (Int.mul_le_mul h1.2 h2.2 h2.1 (by omega)) (by omega)⟩
def z19 (t:Int) (l:List Int):Nat->Int
 | 0=>0
 | k+1=>z19 t l k+z7v t l k
theorem z6d {l:List Int} {k:Nat} (h:k < l.length):zM (k:Int) 0 ((l.length:Int) - 1)=true:=z4E (by omega) (by omega)
theorem zis {a s:Int} (hs:0 < s):s * (a / s)<=a/\a<=s * (a / s)+(s - 1):=by
 have h1:=Int.mul_ediv_add_emod a s;have h2:=Int.emod_nonneg a (show s ≠ 0 by omega);have h3:=Int.emod_lt_of_pos a hs
 constructor <;> omega
theorem za5 {t:Int} {l:List Int} (h:zI t l=true) (hs:0 < l.sum):∀ k,k<=l.length->l.sum * z19 t l k<=t * zK l k/\t * zK l k<=l.sum * z19 t l k+k * (l.sum - 1)
 | 0,_=>by simp [z19,zK]
 | k+1,hk=>by
  obtain ⟨h1,h2⟩:=za5 h hs k (by omega);have hlt:k < l.length:=(by omega);obtain ⟨h3,h4⟩:=zis (a:=t * l.getD k 0) hs;rw [z19,z6c h (z6d hlt) (by omega),z1w hlt,Int.toNat_natCast,Int.mul_add,Int.mul_add];have e:((k+1:Nat):Int) * (l.sum - 1)=(k:Int) * (l.sum - 1)+(l.sum - 1):=(by rw [Int.natCast_add,Int.add_mul];simp);rw [e]
  constructor <;> omega
theorem z54 {t:Int} {l:List Int} (h:zI t l=true) (hs:0 < l.sum):z19 t l l.length<=t/\t - l.length < z19 t l l.length:=by
 obtain ⟨h1,h2⟩:=za5 h hs l.length lR;rw [z1t] at h1 h2
 have hl:0 < l.length:=by
  rcases Nat.eq_zero_or_pos l.length with h0 | h0
  ·rw [List.eq_nil_of_length_eq_zero h0] at hs;simp at hs
  ·exact h0
 generalize l.sum=s at *;generalize z19 t l l.length=d at *;generalize l.length=n at *;rw [Int.mul_comm t s] at h1 h2;constructor
 ·exact Int.le_of_mul_le_mul_left h1 hs
 ·apply Int.lt_of_mul_lt_mul_left (a:=s) _ (by omega);rw [Int.mul_sub];have e:(n:Int) * (s - 1)=s * n - n:=(by rw [Int.mul_sub,Int.mul_one,Int.mul_comm]);omega
theorem z97 {t:Int} {l:List Int} (k:Int):0<=z7v t l k/\z7v t l k<=10000000000:=by
 by_cases h:(zI t l && zM k 0 (l.length - 1) && l.sum != 0)=true
 ·rw [z7v,if_pos h];simp only [Bool.and_eq_true,bne_iff_ne] at h;obtain ⟨⟨h1,h2⟩,h3⟩:=h;obtain ⟨ht,hl,hw⟩:=z0d h1;have hk:0<=k/\k<=(l.length:Int) - 1:=(by simpa [zM] using h2);have hm:=z5N ht (z2P hw (i:=k.toNat) (by omega));have hs:=(z2G hw).1;exact ⟨Int.ediv_nonneg hm.1 hs,Int.le_trans (Int.ediv_le_self _ hm.1) hm.2⟩
 ·rw [z7v,if_neg h];omega
theorem z5W {t:Int} {l:List Int}:∀ k:Nat,0<=z19 t l k/\z19 t l k<=k * 10000000000
 | 0=>by simp [z19]
 | k+1=>by
  have h1:=z5W (t:=t) (l:=l) k;have h2:=z97 (t:=t) (l:=l) k;rw [z19];omega
def eS:ByteArray:=ByteArray.empty
def z1I (w:World) (B:Nat) (v:Value) (l:List ByteArray):Prop :=
 (v=.slice none 0 0/\l=[])\/∃ g cap cur,v=.slice (some ⟨g,0,none⟩) l.length cap/\B<=g/\w.heap[g]?=some (.cells cur 9 (0,0))/\l.length<=cap/\cap<=maxLen/\cur.size=cap/\∀ i,i < l.length->cur[i]?=some (.string (l.getD i eS))
theorem z1I.of_owns {w:World} {B:Nat} {v:Value} {l:List ByteArray} (h:w.ownsRow B 9 1 v l.length (l.map Value.string)):z1I w B v l:=by
 rcases h.2 with ⟨hv,h0⟩ | ⟨g,cap,cur,hv,hb,hg,h1,h2,h3,h4⟩
 ·exact .inl ⟨hv,List.eq_nil_of_length_eq_zero h0⟩
 ·refine .inr ⟨g,cap,cur,hv,hb,hg,h1,h2,by omega,λi hi=>?_⟩;have:cur.toList[i]?=(l.map Value.string)[i]?:=(by rw [<-h4,List.getElem?_take_of_lt (by omega)]);rw [<-Array.getElem?_toList,this];simp [List.getD,hi]
theorem z1I.below {w w':World} {B C:Nat} {v:Value} {l:List ByteArray} (h:z1I w B v l) (k:Below C w w') (hC:w.heap.size<=C):z1I w' B v l:=by
 rcases h with h | ⟨g,cap,cur,hv,hb,hg,r⟩
 ·exact .inl h
 ·exact .inr ⟨g,cap,cur,hv,hb,(k.block g (nL (bL hg) hC)).trans hg,r⟩
theorem z1I.base {w:World} {B B':Nat} {v:Value} {l:List ByteArray} (h:z1I w B v l) (hB:B'<=B):z1I w B' v l:=by
 rcases h with h | ⟨g,cap,cur,hv,hb,r⟩
 ·exact .inl h
 ·exact .inr ⟨g,cap,cur,hv,nT hB hb,r⟩
theorem z4B {w w':World} {base size n:Nat} {e:TypeId} {v:Value} {xs:List Value} (h:w.ownsRow base e size v n xs) (hb:Below w.heap.size w w'):w'.ownsRow base e size v n xs :=
 ⟨h.1,h.2.elim Or.inl (λ⟨g,cap,cur,hv,hg,hc,r⟩=>Or.inr ⟨g,cap,cur,hv,hg,(hb.block g (bL hc)).trans hc,r⟩)⟩
theorem z1I.form {w:World} {B:Nat} {v:Value} {l:List ByteArray} (h:z1I w B v l):∃ a cap,v=.slice a l.length cap:=by
 rcases h with ⟨rfl,rfl⟩ | ⟨g,cap,cur,hv,_⟩
 ·exact ⟨none,0,rfl⟩
 ·exact ⟨_,_,hv⟩
theorem z1I.get {w:World} {B:Nat} {v:Value} {l:List ByteArray} (h:z1I w B v l) {i:Nat} (hi:i < l.length) :
  ∃ g cap,v=.slice (some ⟨g,0,none⟩) l.length cap/\B<=g/\g < w.heap.size/\l.length<=cap/\cap<=maxLen/\w.cell? ⟨g,i,none⟩=some (.string (l.getD i eS))/\w.frozen? ⟨g,i,none⟩=false:=by
 rcases h with ⟨_,rfl⟩ | ⟨g,cap,cur,hv,hb,hg,h1,h2,h3,h4⟩
 ·cases hi
 ·exact ⟨g,cap,hv,hb,(bL hg),h1,h2,(zf hg).trans (h4 i hi),zS hg⟩
theorem z1I.set {w:World} {B g cap n:Nat} {l:List ByteArray} (h:z1I w B (.slice (some ⟨g,0,none⟩) n cap) l) {i:Nat} (hi:i < l.length) (x:ByteArray):z1I (w.setCell ⟨g,i,none⟩ (.string x)) B (.slice (some ⟨g,0,none⟩) n cap) (l.set i x):=by
 rcases h with ⟨hv,_⟩ | ⟨g',cap',cur,hv,hb,hg,h1,h2,h3,h4⟩
 ·simp at hv
 ·simp only [Value.slice.injEq,Option.some.injEq,Addr.mk.injEq,and_true] at hv;obtain ⟨rfl,rfl,rfl⟩:=hv;refine .inr ⟨g,cap,cur.setIfInBounds i (.string x),by simp,hb,z0s hg _,by simpa using h1,h2,by simpa using h3,λj hj=>?_⟩;rw [List.length_set] at hj;by_cases e:i=j
  ·subst e;simp [List.getD,hj,show i < cur.size by omega]
  ·rw [Array.getElem?_setIfInBounds_ne e,h4 j hj];simp [List.getD,e]
def dS:ByteArray:=ByteArray.empty
def z2U (w:World) (z:Nat) (v:Value) (ss:List ByteArray):Prop:=At w z v ss.length 1 (λi b o=>w.cell? ⟨b,o,none⟩=some (.string (ss.getD i dS))/\(ss.getD i dS).size<=maxLen)
theorem z2U.since {w w':World} {z:Nat} {v:Value} {ss:List ByteArray} (h:z2U w z v ss) (k:z0J z w w'):z2U w' z v ss :=
 At.mono h k.size lR (λ_ _ _ _ hb hz he=>⟨(k.cell hz hb _).trans he.1,he.2⟩)
theorem z2U.kept {w w':World} {z:Nat} {v:Value} {ss:List ByteArray} (h:z2U w z v ss) (k:Below w.heap.size w w'):z2U w' z v ss:=h.since (.of_below k)
def zl4 (ss:List ByteArray) (k:Nat):Nat:=((ss.take k).map (λx=>x.size)).sum
def zlr (ss:List ByteArray):Nat:=ss.length+zl4 ss ss.length
def zkj (ss:List ByteArray):Nat->ByteArray
 | 0=>⟨#[]⟩
 | k+1=>if k=0 then ss.getD 0 dS else zkj ss k ++ ⟨#[32]⟩ ++ ss.getD k dS
theorem zfi (v:Value) (l:List Int) (w:World) (h:zA w v l) :
  Calls prog 146 #[v] w λe w'=>e=.returned (int i64 (wrap64 l.sum))/\w'=w:=by
 obtain ⟨a,cap,rfl,hlen⟩:=h.form;have H:=O h;clear h;go_enter func146,ntmps146;go_wp2_with fail
 go_loop [3,8] (λs i=>∃ k:Nat,k<=l.length/\i=int i64 k/\s=int i64 (wrap64 (zK l k))) (λ_ i=>l.length - (intOf i).toNat)
 case atStart=>exact ⟨0,nZ,rfl,by simp [zK,z6R]⟩
 case round =>
  obtain ⟨k,hk,rfl,rfl⟩:=hrel;by_cases hlt:k < l.length
  ·obtain ⟨b,off,cap',e',hc1,hc2,hbl,hx⟩:=H.out.get hlt;simp only [Value.slice.injEq,true_and] at e';obtain ⟨rfl,rfl⟩:=e';have HS:Hid (wrap64 (wrap64 (zK l k)+l.getD k 0)=wrap64 (zK l (k+1))):=(by rw [Hid,z1w hlt,z9E]);generalize l.getD k 0=x at hx HS;generalize wrap64 (zK l k)=s at HS |-;unfold maxLen at hc2;go_wp2
   go_round
   case rel=>exact ⟨k+1,by omega,by go_num,by rw [<-HS.out]⟩
   case measure=>simp [intOf];omega
  ·obtain rfl:k=l.length:=by omega
   have HE:=O (z1t l);go_wp2;go_ret;exact ⟨by rw [<-HE.out];rfl,rfl⟩
theorem z5R (v:Value) (l:List Int) (gap:Int) (w:World) (h:zA w v l) :
  Calls prog 123 #[v,int i64 gap] w λe w'=>e=.returned (int i64 (z1P l gap))/\w'=w:=by
 obtain ⟨a,cap,rfl,hlen⟩:=h.form;have H:=O h;clear h;by_cases h0:l.length=0
 ·have HV:=O (zcm h0 gap);rw [h0] at H |-;clear h0;go_enter func123,ntmps123;go_wp2;go_ret;exact ⟨by rw [HV.out];rfl,rfl⟩
 ·have HV:Hid (z1P l gap=wrap64 (wrap64 l.sum+wrap64 (gap * ((l.length:Int) - 1)))):=(by rw [Hid,z3k h0,z9E,zfT]);have h0':((l.length:Int) == 0)=false:=beq_eq_false_iff_ne.2 (by omega);have KS:=O (zfi _ l w H.out);go_enter func123,ntmps123;go_wp2_with fail
  refine KS.out.mono ?_;rintro e w1 ⟨rfl,rfl⟩;go_wp2;go_ret;exact ⟨by rw [HV.out];rfl,rfl⟩
def z20 (x:GC) (k:Nat):Bool:=z0S (k:Int) x.col x.cols
def z2t (l:List Int) (gap:Int) (x:GC):Int:=z1P (z2v l (z20 x) l.length) gap
theorem z79:(prog.info? 3).map (λi=>(i.zero,i.size,i.bytes))=some (some (Value.int .i64 0),1,8):=by kernel_rfl
theorem z3o {w w3 w4:World} {B n:Nat} {xs:List Value} {x:Int} {o:Value} (hB:w.heap.size<=B) (hO:w3.ownsRow B 3 1 o n xs) (K:Below w.heap.size w w3)
  (hg:(w3.alloc (.cells #[int i64 x] 3)).grownBy w4 o.ownBlock):Below w.heap.size w w4/\∀ g,g < B->g < w3.heap.size->w4.heap[g]?=w3.heap[g]?:=by
 have hA:=ze K (.cells #[int i64 x] 3);refine ⟨⟨hg.os.trans hA.os,hg.tape.trans hA.tape,hg.output.trans hA.output,nT hA.size hg.size,λk hk=>(hg.block k (nL hk hA.size) (λhb=>?_)).trans (hA.block k hk)⟩,λk hk hl=>(hg.block k (by simp;omega) (λhb=>?_)).trans (bA hl)⟩
 ·have:=(hO.lt k hb.symm).1;omega
 ·have:=(hO.lt k hb.symm).1;omega
theorem z9r {l:List Int} {p:Nat->Bool} {k:Nat} (h:p k=true):z2v l p (k+1)=z2v l p k ++ [l.getD k 0]:=by rw [z2v,if_pos h]
theorem zaZ {l:List Int} {p:Nat->Bool} {k:Nat} (h:p k=false):z2v l p (k+1)=z2v l p k:=by rw [z2v,if_neg (by rw [h];simp)]
theorem z9a (v:Value) (l:List Int) (hl:l.length<=1048576) (gap:Int) (x:GC) (hx:GOk x) (w:World) (h:zA w v l) :
  Calls prog 103 #[v,int i64 gap,.agg #[int i64 x.row,int i64 x.col,int i64 x.rows,int i64 x.cols,int i64 x.ins]] w λe w'=>e=.returned (int i64 (z2t l gap x))/\Below w.heap.size w w':=by
 obtain ⟨i0,hi,hz0,hz1,hz2⟩:=info_parts z79;obtain ⟨a,cap,rfl,hlen⟩:=h.form;obtain ⟨_,b1,_,b3,_⟩:=hx;have K0:=ze (Below.refl w.heap.size w) (.cells #[int i64 x.row,int i64 x.col,int i64 x.rows,int i64 x.cols,int i64 x.ins] 51);have X0:=zj w (.cells #[int i64 x.row,int i64 x.col,int i64 x.rows,int i64 x.cols,int i64 x.ins] 51);have H:=O h;have HR:=O (λ(k:Nat) (hk:k<=1048576)=>z8Y (k:Int) x.col x.cols (by unfold I64;omega) b1 b3);clear h b1 b3;go_enter func103,ntmps103;go_wp2_with fail
 go_loopw [7,12] (λo i W=>∃ k:Nat,i=int i64 k/\k<=l.length/\Hid (W.ownsRow (w.heap.size+1) 3 1 o (z2v l (z20 x) k).length ((z2v l (z20 x) k).map (Value.int .i64)))/\Hid (Below w.heap.size w W)/\Hid (W.heap[w.heap.size]?=some (.cells #[int i64 x.row,int i64 x.col,int i64 x.rows,int i64 x.cols,int i64 x.ins] 51))) (λ_ i _=>l.length - (intOf i).toNat)
 case atStart=>exact ⟨0,rfl,nZ,⟨by simp [z2v],.inl ⟨rfl,rfl⟩⟩,K0,X0⟩
 case round =>
  obtain ⟨k,rfl,hk,HO,HB,HX⟩:=hrel;have c1:wr.cell? ⟨w.heap.size,1,none⟩=some (int i64 x.col):=zf HX.out;have c3:wr.cell? ⟨w.heap.size,3,none⟩=some (int i64 x.cols):=zf HX.out;by_cases hlt:k < l.length
  ·obtain ⟨b,off,cap',e',hc1,hc2,hbl,hy⟩:=(H.out.kept HB.out).get hlt;simp only [Value.slice.injEq,true_and] at e';obtain ⟨rfl,rfl⟩:=e';unfold maxLen at hc2;have KR:=O (HR.out k (by omega) wr);have hol:=zcl l (z20 x) k
   cases hin:z20 x k with
   | false =>
    have HL:=O (zaZ (l:=l) hin);have hin':z0S (k:Int) x.col x.cols=false:=hin;rw [hin'] at KR;clear hin hin';generalize l.getD k 0=y at hy;go_wp2_with fail
    refine KR.out.mono ?_;rintro e w1 ⟨rfl,rfl⟩;go_wp2;go_roundw
    case rel=>exact ⟨k+1,by go_num,by omega,by rw [HL.out];exact HO,HB,HX⟩
    case measure=>simp [intOf];omega
   | true =>
    have HL:=O (z9r (l:=l) hin);have hin':z0S (k:Int) x.col x.cols=true:=hin;rw [hin'] at KR;clear hin hin';generalize l.getD k 0=y at hy HL;generalize z2v l (z20 x) k=xs at HO HL hol;go_wp2_with fail
    refine KR.out.mono ?_;rintro e w1 ⟨rfl,rfl⟩;have hO4:=HO.out;have hsz:w.heap.size < w1.heap.size:=(bL HX.out);go_wp2_with (at_builtin;refine wpList_append_own _ rfl _ _ 27 rfl (w.heap.size+1) 3 i0 (int i64 0) 1 8 underlying27 hi hz0 hz1 hz2 rfl (by decide) _ _ _ rfl (hO4.alloc _) ⟨w1.heap.size,0,none⟩ 1 1 [int i64 y] rfl rfl ?c1 ?c2 ?c3 ?c4 ?c5 ?_)
    case c1 =>
     intro i u hi
     match i,hi with
     | 0,hi=>simp at hi;subst hi;simp [Addr.add]
    case c2=>intro u hu;simp at hu;subst hu;rfl
    case c3=>unfold maxLen;omega
    case c4=>omega
    case c5=>simp;omega
    intro v' w5 hown' hgrow' _;obtain ⟨hB5,hX5⟩:=z3o (Nat.le_succ _) hO4 HB.out hgrow';have HB5:=O hB5;have HX5:=O ((hX5 w.heap.size (Nat.lt_succ_self _) (bL HX.out)).trans HX.out);have HO5:Hid (w5.ownsRow (w.heap.size+1) 3 1 v' (xs ++ [y]).length ((xs ++ [y]).map (Value.int .i64))):=(by rw [List.length_append,List.map_append];exact hown');obtain ⟨g',cap'',rfl⟩:=Joins.ownsRow_form hown' (by omega);clear hown' hgrow' hO4 hB5 hX5 HO HB HX;go_wp2;go_roundw
    case rel=>exact ⟨k+1,by go_num,by omega,by rw [HL.out];exact HO5,HB5,HX5⟩
    case measure=>simp [intOf];omega
  ·obtain rfl:k=l.length:=by omega
   have hI:=(zq.of_owns HO.out).at;obtain ⟨aa,cc,rfl,_⟩:=hI.form;have KA:=O (z5R _ _ gap wr hI);have HV:Hid (z2t l gap x=z1P (z2v l (z20 x) l.length) gap):=rfl;clear hI;go_wp2_with fail
   refine KA.out.mono ?_;rintro e w1 ⟨rfl,rfl⟩;go_wp2;go_ret;exact ⟨rfl,HB.out⟩
def sd (ps:List (Int × Int)) (q:Int):Int × Int:=if zM q 0 (ps.length - 1)=true then ps.getD q.toNat (0,0) else (0,0)
theorem zaa {ps:List (Int × Int)} {q:Int} (h:zM q 0 (ps.length - 1)=false):sd ps q=(0,0):=by unfold sd;rw [if_neg (by rw [h];simp)]
theorem z8p {ps:List (Int × Int)} {k:Nat} (h:k < ps.length):sd ps k=ps.getD k (0,0):=by unfold sd;rw [if_pos (z4E (by omega) (by omega)),Int.toNat_natCast]
def sdT (t:T) (q:Int):Int × Int:=if zF t=true then sd t.cols q else (0,0)
def z2A (s:ByteArray):Nat:=if z0u s=true then s.size else 0
theorem z8r (s:ByteArray):z2A s<=30:=by
 unfold z2A
 split
 ·rename_i h
  exact ((z2B s).1 h).1
 ·omega
theorem zdi {l:List Int} {x:GC} {c m:Nat} (hc:x.col=c) (hm:x.cols=m):∀ k,k<=l.length->(z2v l (z20 x) k).length=min m (k - c)/\(z2v l (z20 x) k).sum=zK l (min k (c+m)) - zK l (min k c)
 | 0,_=>by simp [z2v,zK]
 | k+1,hk=>by
  obtain ⟨h1,h2⟩:=zdi (l:=l) hc hm k (by omega);by_cases hin:c<=k/\k < c+m
  ·have e:z20 x k=true:=(by simp [z20,z0S,hc,hm];omega);rw [z9r e,List.length_append,List.sum_append,h1,h2];have e1:min (k+1) (c+m)=k+1:=(by omega);have e2:min k (c+m)=k:=(by omega);have e3:min (k+1) c=c:=(by omega);have e4:min k c=c:=(by omega);rw [e1,e2,e3,e4,z1w (by omega)];simp;omega
  ·have e:z20 x k=false:=(by simp [z20,z0S,hc,hm];omega);rw [zaZ e,h1,h2];have e1:min (k+1) (c+m)=min k (c+m)\/min (k+1) c=k+1:=(by omega);by_cases hkc:k < c
   ·have a1:min (k+1) (c+m)=k+1:=(by omega);have a2:min k (c+m)=k:=(by omega);have a3:min (k+1) c=k+1:=(by omega);have a4:min k c=k:=(by omega);rw [a1,a2,a3,a4];omega
   ·have a1:min (k+1) (c+m)=min k (c+m):=(by omega);have a3:min (k+1) c=min k c:=(by omega);rw [a1,a3];omega
def zdj (x:GC):GC:=⟨0,x.row,0,x.rows,0⟩
theorem zjJ {x:GC} (h:GOk x):GOk (zdj x):=by
 obtain ⟨a,b,c,d,e⟩:=h;exact ⟨⟨by show (-9223372036854775808:Int)<=0;omega,by show (0:Int) < 9223372036854775808;omega⟩,a,⟨by show (-9223372036854775808:Int)<=0;omega,by show (0:Int) < 9223372036854775808;omega⟩,c,⟨by show (-9223372036854775808:Int)<=0;omega,by show (0:Int) < 9223372036854775808;omega⟩⟩
def z7G (l:List Int) (x:GC):Int:=z2t l 0 (zdj x)
theorem ze2 (v:Value) (l:List Int) (hl:l.length<=1048576) (x:GC) (hx:GOk x) (w:World) (h:zA w v l) :
  Calls prog 58 #[v,.agg #[int i64 x.row,int i64 x.col,int i64 x.rows,int i64 x.cols,int i64 x.ins]] w λe w'=>e=.returned (int i64 (z7G l x))/\Below w.heap.size w w':=by
 obtain ⟨a,cap,rfl,hlen⟩:=h.form;have KC:=O (λW=>z9a (.slice a l.length cap) l hl 0 (zdj x) (zjJ hx) W);have K0:=ze (Below.refl w.heap.size w) (.cells #[int i64 x.row,int i64 x.col,int i64 x.rows,int i64 x.cols,int i64 x.ins] 51);have HK:=O K0;have H:=O (h.kept K0);clear h hx K0;go_enter func58,ntmps58;go_wp2_with fail
 refine (KC.out _ H.out).mono ?_;rintro e w1 ⟨rfl,hb1⟩;have HK1:=O (zi HK.out hb1);have HV:Hid (z2t l 0 (zdj x)=z7G l x):=rfl;rw [HV.out];clear hb1 H HK;go_wp2;go_ret;exact ⟨rfl,HK1.out⟩
def z2c (w:World) (z:Nat) (v:Value) (ls:List (List ByteArray)):Prop:=At w z v ls.length 1 (λi b o=>∃ u,w.cell? ⟨b,o,none⟩=some u/\z2U w z u (ls.getD i []))
theorem z2U.base {w:World} {z z':Nat} {v:Value} {ss:List ByteArray} (h:z2U w z v ss) (hz:z'<=z):z2U w z' v ss:=At.mono h lR hz (λ_ _ _ _ _ _ he=>he)
theorem z2c.since {w w':World} {z:Nat} {v:Value} {ls:List (List ByteArray)} (h:z2c w z v ls) (k:z0J z w w'):z2c w' z v ls :=
 At.mono h k.size lR (λ_ _ _ _ hb hz ⟨u,h1,h2⟩=>⟨u,(k.cell hz hb _).trans h1,h2.since k⟩)
theorem z2c.kept {w w':World} {z:Nat} {v:Value} {ls:List (List ByteArray)} (h:z2c w z v ls) (k:Below w.heap.size w w'):z2c w' z v ls:=h.since (.of_below k)
theorem z2c.base {w:World} {z z':Nat} {v:Value} {ls:List (List ByteArray)} (h:z2c w z v ls) (hz:z'<=z):z2c w z' v ls:=At.mono h lR hz (λ_ _ _ _ _ _ ⟨u,h1,h2⟩=>⟨u,h1,h2.base hz⟩)
theorem z2c.get {w:World} {z:Nat} {v:Value} {ls:List (List ByteArray)} (h:z2c w z v ls) {i:Nat} (hi:i < ls.length):∃ b off cap u,v=.slice (some ⟨b,off,none⟩) ls.length cap/\ls.length<=cap/\cap<=maxLen/\b < w.heap.size/\w.cell? ⟨b,off+i,none⟩=some u/\z2U w z u (ls.getD i []):=by
 obtain ⟨b,off,cap,e,h1,h2,h3,u,h4,h5⟩:=At.get h hi;rw [Nat.mul_one] at h4;exact ⟨b,off,cap,u,e,h1,h2,h3,h4,h5⟩
def z6L (w:World) (z:Nat) (us:List Value) (ls:List (List ByteArray)):Prop:=us.length=ls.length/\∀ i,i < ls.length->z2U w z (us.getD i (.slice none 0 0)) (ls.getD i [])
theorem z6L.nil (w:World) (z:Nat):z6L w z [] []:=⟨rfl,λi hi=>absurd hi (Nat.not_lt_zero i)⟩
theorem z6L.since {w w':World} {z:Nat} {us:List Value} {ls:List (List ByteArray)} (h:z6L w z us ls) (k:z0J z w w'):z6L w' z us ls:=⟨h.1,λi hi=>(h.2 i hi).since k⟩
theorem z6L.next {w:World} {z:Nat} {us:List Value} {ls:List (List ByteArray)} (h:z6L w z us ls) {u:Value} {l:List ByteArray} (hu:z2U w z u l):z6L w z (us ++ [u]) (ls ++ [l]):=by
 refine ⟨by rw [List.length_append,List.length_append,h.1];rfl,λi hi=>?_⟩;rw [List.length_append,List.length_singleton] at hi
 rcases Nat.lt_or_ge i ls.length with h1 | h1
 ·have e1:(us ++ [u]).getD i (.slice none 0 0)=us.getD i (.slice none 0 0):=by
   rw [List.getD_eq_getElem?_getD,List.getElem?_append_left (by rw [h.1];exact h1),<-List.getD_eq_getElem?_getD]
  have e2:(ls ++ [l]).getD i []=ls.getD i []:=by
   rw [List.getD_eq_getElem?_getD,List.getElem?_append_left h1,<-List.getD_eq_getElem?_getD]
  rw [e1,e2];exact h.2 i h1
 ·obtain rfl:i=ls.length:=by omega
  have e1:(us ++ [u]).getD ls.length (.slice none 0 0)=u:=by
   rw [List.getD_eq_getElem?_getD,List.getElem?_append_right (by rw [h.1];omega),h.1,Nat.sub_self];rfl
  have e2:(ls ++ [l]).getD ls.length []=l:=by
   rw [List.getD_eq_getElem?_getD,List.getElem?_append_right lR,Nat.sub_self];rfl
  rw [e1,e2];exact hu
theorem zh5:(prog.info? 93).map (λi=>(i.zero,i.size,i.bytes))=some (some (Value.slice none 0 0),1,24):=by kernel_rfl
theorem zh6 {w:World} {B:Nat} {v:Value} {l:List ByteArray} (h:z1I w B v l) (hs:∀ x ∈ l,x.size<=maxLen):z2U w B v l:=by
 unfold z2U
 rcases h with ⟨rfl,rfl⟩ | ⟨g,cap,cur,hv,hb,hg,h1,h2,h3,h4⟩
 ·exact ⟨none,0,rfl,lR,nZ,λi hi=>absurd hi (Nat.not_lt_zero _)⟩
 ·refine ⟨some ⟨g,0,none⟩,cap,hv,h1,h2,λi hi=>⟨g,0,rfl,(bL hg),hb,?_,?_⟩⟩
  ·rw [Nat.zero_add,Nat.mul_one,zf hg,h4 i hi];rfl
  ·have:=hs l[i] (List.getElem_mem hi)
   simpa [List.getD,hi] using this
theorem z1I.grown {w w':World} {B base:Nat} {v U:Value} {l:List ByteArray} {m:Nat} {xs:List Value} (h:z1I w B v l) (hU:w.ownsRow base 93 1 U m xs) (k:w.grownBy w' U.ownBlock):z1I w' B v l:=by
 rcases h with h | ⟨g,cap,cur,hv,hb,hg,r⟩
 ·exact .inl h
 ·exact .inr ⟨g,cap,cur,hv,hb,z06 hg k (z0e (zt hU hg (by decide))),r⟩
def z2F (w:World) (B:Nat) (us:List Value) (ls:List (List ByteArray)):Prop:=us.length=ls.length/\∀ i,i < ls.length->z1I w B (us.getD i (.slice none 0 0)) (ls.getD i [])
theorem z2F.nil (w:World) (B:Nat):z2F w B [] []:=⟨rfl,λi hi=>absurd hi (Nat.not_lt_zero i)⟩
theorem z2F.kept {w w':World} {B:Nat} {us:List Value} {ls:List (List ByteArray)} (h:z2F w B us ls) (k:Below w.heap.size w w'):z2F w' B us ls:=⟨h.1,λi hi=>(h.2 i hi).below k lR⟩
theorem z2F.grown {w w':World} {B base:Nat} {U:Value} {us:List Value} {ls:List (List ByteArray)} {m:Nat} {xs:List Value} (h:z2F w B us ls) (hU:w.ownsRow base 93 1 U m xs) (k:w.grownBy w' U.ownBlock):z2F w' B us ls:=⟨h.1,λi hi=>(h.2 i hi).grown hU k⟩
theorem z2F.next {w:World} {B:Nat} {us:List Value} {ls:List (List ByteArray)} (h:z2F w B us ls) {u:Value} {l:List ByteArray} (hu:z1I w B u l):z2F w B (us ++ [u]) (ls ++ [l]):=by
 refine ⟨by rw [List.length_append,List.length_append,h.1];rfl,λi hi=>?_⟩;rw [List.length_append,List.length_singleton] at hi
 rcases Nat.lt_or_ge i ls.length with h1 | h1
 ·have e1:(us ++ [u]).getD i (.slice none 0 0)=us.getD i (.slice none 0 0):=by
   rw [List.getD_eq_getElem?_getD,List.getElem?_append_left (by rw [h.1];exact h1),<-List.getD_eq_getElem?_getD]
  have e2:(ls ++ [l]).getD i []=ls.getD i []:=by
   rw [List.getD_eq_getElem?_getD,List.getElem?_append_left h1,<-List.getD_eq_getElem?_getD]
  rw [e1,e2];exact h.2 i h1
 ·obtain rfl:i=ls.length:=by omega
  have e1:(us ++ [u]).getD ls.length (.slice none 0 0)=u:=by
   rw [List.getD_eq_getElem?_getD,List.getElem?_append_right (by rw [h.1];omega),h.1,Nat.sub_self];rfl
  have e2:(ls ++ [l]).getD ls.length []=l:=by
   rw [List.getD_eq_getElem?_getD,List.getElem?_append_right lR,Nat.sub_self];rfl
  rw [e1,e2];exact hu
theorem z2F.lls {w:World} {B base z:Nat} {v:Value} {us:List Value} {ls:List (List ByteArray)} (h:z2F w B us ls) (hO:w.ownsRow base 93 1 v us.length us) (hz:z<=base) (hzB:z<=B) (hs:∀ l ∈ ls,∀ x ∈ l,x.size<=maxLen):z2c w z v ls:=by
 unfold z2c;have hul:=h.1
 rcases hO.2 with ⟨hv,h0⟩ | ⟨g,cap,cur,hv,hb,hg,h1,h2,h3,h4⟩
 ·exact ⟨none,0,by rw [<-hul,h0];exact hv,by omega,nZ,λi hi=>by omega⟩
 ·refine ⟨some ⟨g,0,none⟩,cap,by rw [<-hul];exact hv,by omega,h2,λi hi=>⟨g,0,rfl,(bL hg),by omega,us.getD i (.slice none 0 0),?_,?_⟩⟩
  ·have:cur.toList[i]?=us[i]?:=(by rw [<-h4,List.getElem?_take_of_lt (by omega)]);rw [Nat.zero_add,Nat.mul_one,zf hg,<-Array.getElem?_toList,this];simp [List.getD,show i < us.length by omega]
  ·have hl:ls.getD i []=ls[i]:=(by simp [List.getD,hi]);exact (zh6 (h.2 i hi) (by rw [hl];exact hs _ (List.getElem_mem hi))).base hzB
end
section
open Go.RowKit
section
variable {P:Program} {ops:Array Oper} {C:World->Prop}
def z7H (ops:Array Oper) (z:Nat):Bool:=(List.range z).all λi=>(List.range (z+1)).any λj=>decide (i < j) && z7h ops j i
theorem z8w {z:Nat} {L:Nat->Bool} (hs:z7H ops z=true) (hc:z2Q ops L) {o:Oper} (ho:ops[z]?=some o) (ha:∀ e ∈ o.after,Region.binds .any e=true->L e.on=true):∀ n i,z - i<=n->i < z->L i=true
 | 0,i,h,hi=>by omega
 | n+1,i,h,hi=>by
  have h1:=List.all_eq_true.1 hs i (List.mem_range.2 hi);obtain ⟨j,hj,h2⟩:=List.any_eq_true.1 h1;have hjz:=List.mem_range.1 hj;rw [Bool.and_eq_true] at h2;obtain ⟨h3,h4⟩:=h2;have h3:=of_decide_eq_true h3;by_cases e:j=z
  ·subst e;unfold z7h at h4;rw [ho] at h4;simp only [Option.map_some,Option.getD_some,List.any_eq_true,Bool.and_eq_true,beq_iff_eq] at h4;obtain ⟨e,he1,he2,he3⟩:=h4;have:=ha e (by simpa using he1) he2
   rwa [he3] at this
  ·have hLj:=z8w hs hc ho ha n j (by omega) (by omega)
   cases hLi:L i with
   | true=>rfl
   | false=>rw [hc j i h4 hLi] at hLj;cases hLj
theorem z62 {listed:Array Bool} {j:Nat} (h:z2Q ops (λk=>listed.getD k false)) (hj:j ∈ Region.ready .any ops listed):z2Q ops (λk=>(listed.setIfInBounds j true).getD k false):=by
 obtain ⟨h0,o,ho,ha⟩:=mem_ready.1 hj
 have hlt:j < listed.size:=by
  rcases Nat.lt_or_ge j listed.size with h' | h'
  ·exact h'
  ·rw [Array.getD_eq_getD_getElem?,Array.getElem?_eq_none h'] at h0
   cases h0
 rw [z9G hlt];exact h.next ho ha
def z8x (P:Program) (ops:Array Oper) (C:World->Prop) (z:Nat) (R:Act->Prop):Nat->Array Bool->Act->Prop
 | 0,_,_=>False
 | fuel+1,listed,a=>Region.ready .any ops listed ≠ []/\∀ i ∈ Region.ready .any ops listed,if i=z then (fuel=0/\Region.ready .any ops (listed.setIfInBounds z true)=[]/\R a) else qOp P ops C i (z8x P ops C z R fuel (listed.setIfInBounds i true)) a
theorem zae {Q:Exit->Act->World->Prop} {R:Act->Prop} {z:Nat} (hR:∀ a w,C w->R a->wpOp P ops Q z (λa' w'=>Q .normal a' w') a w):∀ (fuel:Nat) (listed:Array Bool) (a:Act) (w:World),C w->z8x P ops C z R fuel listed a->wpAny P .any ops Q fuel listed a w
 | 0,_,_,_,_,h=>h.elim
 | fuel+1,listed,a,w,hw,h=>⟨λh0=>absurd h0 h.1,λi hi=>by
   have h2:=h.2 i hi;by_cases hz:i=z
   ·rw [if_pos hz] at h2;obtain ⟨h3,hr,hRa⟩:=h2;subst h3;subst hz;exact wpOp_mono (λa' w' h'=>⟨hr,h'⟩) (hR a w hw hRa)
   ·rw [if_neg hz] at h2;exact wpOp_of_qOp hw (λa' w' hw'=>zae hR fuel _ a' w' hw') h2⟩
theorem zdk {R:Act->Prop} {z i:Nat} {oi:Oper} {v:Value} (hs:z7H ops z=true) (hi:ops[i]?=some oi) (hiz:i < z) (hsel:∀ (j:Nat) (o:Oper) cs b,ops[j]?=some o->o.op ≠ .select cs b) :
  ∀ (fuel:Nat) (listed:Array Bool) (a:Act),z2Q ops (λk=>listed.getD k false) ->
   (∀ j oj,ops[j]?=some oj->j ≠ i->listed.getD j true=false->(∀ e ∈ oj.after,Region.binds .any e=true->e.on ≠ i)->oi.apart ops oj=true) ->
   i ∈ Region.ready .any ops listed->YieldsIn P ops C oi v a ->
   z8x P ops C z R fuel (listed.setIfInBounds i true) (a.put oi.dst v)->z8x P ops C z R (fuel+1) listed a:=by
 intro fuel
 induction fuel with
 | zero=>intro listed a _ _ _ _ H;exact H.elim
 | succ fuel ih =>
  intro listed a hcl hfree hr hy H;refine ⟨λh=>(by rw [h] at hr;cases hr),λj hj=>?_⟩;by_cases hji:j=i
  ·rw [if_neg (by omega)];subst hji;exact hy.qOp hi H
  ·have hjz:j ≠ z:=λe=>by
    subst e;obtain ⟨_,o,ho,ha⟩:=mem_ready.1 hj;have h1:=z8w hs hcl ho ha _ i lR hiz;have h0:=(mem_ready.1 hr).1
    rcases Nat.lt_or_ge i listed.size with h' | h'
    ·simp [h'] at h0 h1;rw [h0] at h1;cases h1
    ·simp [Array.getElem?_eq_none h'] at h1
   rw [if_neg hjz];have h1:=H.2 j (ready_mono hj hji);rw [if_neg hjz] at h1;obtain ⟨hjun,oj,hoj,hall⟩:=mem_ready.1 hj
   have hnot:∀ e ∈ oj.after,Region.binds .any e=true->e.on ≠ i:=λe he hb heq=>by
    have h1:=hall e he hb;have h0:=(mem_ready.1 hr).1;rw [heq] at h1
    rcases Nat.lt_or_ge i listed.size with h' | h'
    ·simp [h'] at h0 h1;rw [h0] at h1;cases h1
    ·simp [Array.getElem?_eq_none h'] at h1
   have h2:=qOp_put hoj (hfree j oj hoj hji hjun hnot) (λcs b=>hsel i oi cs b hi) (λcs b=>hsel j oj cs b hoj) hy h1
   have hfree':∀ k ok,ops[k]?=some ok->k ≠ i->(listed.setIfInBounds j true).getD k true=false ->
     (∀ e ∈ ok.after,Region.binds .any e=true->e.on ≠ i)->oi.apart ops ok=true:=λk ok hk hki hun hno=>by
    refine hfree k ok hk hki ?_ hno;by_cases hjk:j=k
    ·subst hjk;exact hjun
    ·rw [getD_set_ne true hjk] at hun;exact hun
   refine qOp_mono (λa' h3=>ih (listed.setIfInBounds j true) a' (z62 hcl hj) hfree' (ready_mono hr (Ne.symm hji)) h3.1 ?_) h2;rw [Array.setIfInBounds_comm _ _ hji];exact h3.2
theorem zaf {R:Act->Prop} {z:Nat} (hns:Region.noSelect ops=true) (hs:z7H ops z=true):∀ (l:List Oper) (k:Nat) (listed:Array Bool) (a:Act),k+l.length=z->(∀ j,j < l.length->l[j]?=ops[k+j]?)->z2Q ops (λk=>listed.getD k false) ->
  Region.lexFrom .any ops (l.length+1) k listed=true->wpQuiet P ops C R l a->z8x P ops C z R (l.length+1) listed a
 | [],k,listed,a,hk,_,_,hB,h=>by
  simp only [List.length_nil,Region.lexFrom,Bool.and_eq_true] at hB;obtain ⟨⟨hr,_⟩,he⟩:=hB;have hk':k=z:=(by simpa using hk);subst hk';have hr':k ∈ Region.ready .any ops listed:=(by simpa using hr);have he':Region.ready .any ops (listed.setIfInBounds k true)=[]:=(by simpa using he);refine ⟨λh=>(by rw [h] at hr';cases hr'),λi hi=>?_⟩;by_cases hik:i=k
  ·rw [if_pos hik];exact ⟨rfl,he',h⟩
  ·have:=ready_mono hi hik;rw [he'] at this
   cases this
 | o :: l,k,listed,a,hk,hl,hcl,hB,h=>by
  have h0:ops[k]?=some o:=(by simpa using (hl 0 (by simp)).symm);simp only [List.length_cons] at hk hB |-;rw [Region.lexFrom] at hB;simp only [Bool.and_eq_true] at hB;obtain ⟨⟨hr,hf⟩,hB'⟩:=hB;have hr':k ∈ Region.ready .any ops listed:=(by simpa using hr);have hst:qOp P ops C k (wpQuiet P ops C R l) a:=(by unfold qOp;simp only [h0];exact h);obtain ⟨v,hy,hK⟩:=yieldsIn_of_qOp h0 hst
  exact zdk hs h0 (by omega) (Region.noSelect_spec hns) (l.length+1) listed a hcl (Region.free_spec h0 hf) hr' hy
   (zaf hns hs l (k+1) _ _ (by omega) (λj hj=>by have:=hl (j+1) (by simpa using hj);simpa [Nat.add_assoc,Nat.add_comm 1 j] using this) (z62 hcl hr') hB' hK)
end
theorem z1g {P:Program} {id:Nat} {Q:Exit->Act->World->Prop} {a:Act} {w:World} {l:List Oper} (n:Nat) {o:Oper} (hm:P.follows .mixedOrders=true) (hl:l.length=n+1) (ho:l[n]?=some o) (hB:Region.lexB .any l.toArray=true) (hs:z7H l.toArray n=true)
  (h:wpQuiet P l.toArray (λw'=>∃ p:BW w,w'=p.u) (λa'=>∀ w',(∃ p:BW w,w'=p.u)->if Region.wanted o (yielded l.toArray a'.tmps)=true then o.wp P a' w' (λa w=>Q .normal a w) Q else Q .normal (a'.put o.dst undef) w') (l.take n) a):(Code.region id l.toArray true).wp P Q a w:=by
 simp only [Region.lexB,Bool.and_eq_true] at hB;have hlt:(l.take n).length=n:=(by rw [List.length_take];omega);refine wp_region_any hm (zae (C:=λw'=>∃ p:BW w,w'=p.u) (z:=n) (R:=λa'=>∀ w',(∃ p:BW w,w'=p.u)->if Region.wanted o (yielded l.toArray a'.tmps)=true then o.wp P a' w' (λa w=>Q .normal a w) Q else Q .normal (a'.put o.dst undef) w') ?_ _ _ _ _ ⟨⟨_,z0X bR⟩,rfl⟩ ?_)
 ·intro a' w' hw' hR;have h1:=hR w' hw';unfold wpOp;rw [show l.toArray[n]?=some o by simpa using ho];dsimp only
  split
  ·rename_i hw;rw [if_pos hw] at h1;exact .inl h1
  ·rename_i hw;rw [if_neg hw] at h1;exact h1
 ·have:=zaf (P:=P) (C:=λw'=>∃ p:BW w,w'=p.u) hB.1 hs (l.take n) 0 (Array.replicate l.toArray.size false) a (by omega) (λj hj=>by rw [hlt] at hj;simp [hj]) (λj i _ _=>by
   show (Array.replicate l.toArray.size false).getD j false=false;rw [Array.getD_eq_getD_getElem?,Array.getElem?_replicate]
   split <;> rfl) (by rw [hlt,<-hl];simpa using hB.2) h
  rw [hlt,<-hl] at this
  simpa using this
end
section
open Go.RowKit
theorem zak (v:Value) (ps:List (Int × Int)) (q:Int) (w:World) {z:Nat} (h:z09 w z v ps) :
  Calls prog 145 #[v,int i64 q] w λe w'=>e=.returned (.agg #[int i64 (sd ps q).1,int i64 (sd ps q).2])/\Below w.heap.size w w':=by
 obtain ⟨a,cap,rfl,hlen⟩:=At.form h;have HI:=O (zW q 0 ((ps.length:Int) - 1));unfold maxLen at hlen
 cases hin:zM q 0 ((ps.length:Int) - 1) with
 | false =>
  rw [hin] at HI;rw [zaa hin];clear hin h;go_enter func145,ntmps145;go_wp2_with fail
  refine (HI.out _).mono ?_;rintro e w1 ⟨rfl,rfl⟩;go_wp2;exact bodyPost_ret (v:=.agg #[int i64 0,int i64 0]) (by simp [results,results145,go_sem]) rfl ⟨rfl,by repeat (first | exact bR | apply ze)⟩
 | true =>
  rw [hin] at HI;have hk:0<=q/\q<=(ps.length:Int) - 1:=(by simpa [zM] using hin);clear hin;obtain ⟨k,rfl⟩:=Int.eq_ofNat_of_zero_le hk.1;have hkl:k < ps.length:=(by omega);rw [z8p hkl];obtain ⟨b,off,cap',e',hc1,hc2,hbl,hx0,hx1⟩:=At.get h hkl;simp only [Value.slice.injEq,true_and] at e';obtain ⟨rfl,rfl⟩:=e';unfold maxLen at hc2;generalize ps.getD k (0,0)=p at hx0 hx1 |-;clear h;go_enter func145,ntmps145;go_wp2_with fail
  refine (HI.out _).mono ?_;rintro e w1 ⟨rfl,rfl⟩;go_wp2;exact bodyPost_ret (v:=.agg #[int i64 p.1,int i64 p.2]) (by simp [results,results145,go_sem]) rfl ⟨rfl,by repeat (first | exact bR | apply ze)⟩
theorem zdl (a b:Value) (W:World):(Instr.field 105 (.agg #[a,b]) 0).run prog W=.ok a W:=by
 kernel_rfl
theorem zkl (a b:Value) (W:World):(Instr.field 105 (.agg #[a,b]) 1).run prog W=.ok b W:=by
 kernel_rfl
theorem z8y {w:World} {b off n cap:Nat} {l:List Int} (H:zA w (.slice (some ⟨b,off,none⟩) n cap) l) {w':World} (K:Below w.heap.size w w'):∀ j x,(l.map (Value.int .i64))[j]?=some x->w'.cell? ((⟨b,off,none⟩:Addr).add j)=some x:=by
 intro j x hx;rw [List.getElem?_map] at hx;obtain ⟨y,hy,rfl⟩:=Option.map_eq_some_iff.1 hx;have hj:=(List.getElem?_eq_some_iff.1 hy).1;rw [Go.WideShapes.add_plain];obtain ⟨bq,oq,cq,eq1,_,_,hbw,hcq⟩:=H.get hj;simp only [Value.slice.injEq,Option.some.injEq,Addr.mk.injEq,and_true] at eq1;obtain ⟨⟨rfl,rfl⟩,_⟩:=eq1;rw [K.cell (p:=⟨b,off+j,none⟩) hbw,hcq];simp [List.getD,hy]
theorem zb5 (l:List Int):∀ x ∈ l.map (Value.int .i64),x.oneCell'=true:=λx hx=>by obtain ⟨y,_,rfl⟩:=List.mem_map.1 hx;rfl
theorem ze7 (s:ByteArray) (hs:s.size<=maxLen) (w:World):Calls prog 157 #[.string s] w λe w'=>e=.returned (int i64 (z2A s))/\w'=w:=by
 unfold z2A;have hm:=hs;unfold maxLen at hm
 cases hok:z0u s
 all_goals
  go_enter func157,ntmps157;go_wp2_with (go_at_call 37;refine (z2p _ _ hs).mono ?_;rintro e w' ⟨rfl,rfl⟩;rw [hok])
  go_ret;exact ⟨rfl,rfl⟩
theorem z4D (ac ar:Option Addr) (cc cr:Nat) (t:T) (width:Int) (w:World) {z:Nat} (hc:z09 w z (.slice ac t.cols.length cc) t.cols) (hr:z05 w z (.slice ar t.rows.length cr) t.rows) :
  Calls prog 56 #[.agg #[.slice ac t.cols.length cc,int i64 t.head,int i64 t.foot,.slice ar t.rows.length cr,int i64 t.gap],int i64 width] w λe w'=>e=.returned (.bool (zF t && zM width 0 300))/\Below w.heap.size w w':=by
 have K0:=ze (Below.refl w.heap.size w) (.cells #[.slice ac t.cols.length cc,int i64 t.head,int i64 t.foot,.slice ar t.rows.length cr,int i64 t.gap] 26);have KT:=O (z3W ac ar cc cr t _ (hc.kept K0) (hr.kept K0));have HK0:=O K0;have HI:=O (zW width 0 300);clear hc hr K0
 cases htk:zF t with
 | false =>
  rw [htk] at KT;clear htk;go_enter func56,ntmps56;go_wp2_with fail
  refine KT.out.mono ?_;rintro e w1 ⟨rfl,hb1⟩;have HK1:=O (zi HK0.out hb1);clear hb1 KT HK0;go_wp2;go_ret;exact ⟨rfl,HK1.out⟩
 | true =>
  rw [htk] at KT;clear htk;go_enter func56,ntmps56;go_wp2_with fail
  refine KT.out.mono ?_;rintro e w1 ⟨rfl,hb1⟩;have HK1:=O (zi HK0.out hb1);clear hb1 KT HK0;go_wp2_with fail
  refine (HI.out _).mono ?_;rintro e w2 ⟨rfl,rfl⟩;go_wp2;go_ret;exact ⟨by simp,HK1.out⟩
end
section
open Go.RowKit
section
variable {P:Program} {ops:Array Oper} {C:World->Prop}
def z1v (n:Nat):Nat->Array Bool
 | 0=>Array.replicate n false
 | k+1=>(z1v n k).setIfInBounds k true
def z8A (P:Program) (ops:Array Oper) (C:World->Prop) (Q:Exit->Act->World->Prop) (z:Nat):Nat->Array Bool->Act->Prop
 | 0,_,_=>False
 | fuel+1,listed,a=>Region.ready .any ops listed ≠ []/\∀ i ∈ Region.ready .any ops listed,if i=z then (∀ w,C w->wpOp P ops Q z (wpAny P .any ops Q fuel (listed.setIfInBounds z true)) a w) else qOp P ops C i (z8A P ops C Q z fuel (listed.setIfInBounds i true)) a
theorem zas {Q:Exit->Act->World->Prop} {z:Nat}:∀ (fuel:Nat) (listed:Array Bool) (a:Act) (w:World),C w->z8A P ops C Q z fuel listed a->wpAny P .any ops Q fuel listed a w
 | 0,_,_,_,_,h=>h.elim
 | fuel+1,listed,a,w,hw,h=>⟨λh0=>absurd h0 h.1,λi hi=>by
   have h2:=h.2 i hi;by_cases hz:i=z
   ·rw [if_pos hz] at h2;subst hz;exact h2 w hw
   ·rw [if_neg hz] at h2;exact wpOp_of_qOp hw (λa' w' hw'=>zas fuel _ a' w' hw') h2⟩
theorem zds {Q:Exit->Act->World->Prop} {z i:Nat} {oi:Oper} {v:Value} (hs:z7H ops z=true) (hi:ops[i]?=some oi) (hiz:i < z) (hsel:∀ (j:Nat) (o:Oper) cs b,ops[j]?=some o->o.op ≠ .select cs b) :
  ∀ (fuel:Nat) (listed:Array Bool) (a:Act),z2Q ops (λk=>listed.getD k false) ->
   (∀ j oj,ops[j]?=some oj->j ≠ i->listed.getD j true=false->(∀ e ∈ oj.after,Region.binds .any e=true->e.on ≠ i)->oi.apart ops oj=true) ->
   i ∈ Region.ready .any ops listed->YieldsIn P ops C oi v a ->
   z8A P ops C Q z fuel (listed.setIfInBounds i true) (a.put oi.dst v)->z8A P ops C Q z (fuel+1) listed a:=by
 intro fuel
 induction fuel with
 | zero=>intro listed a _ _ _ _ H;exact H.elim
 | succ fuel ih =>
  intro listed a hcl hfree hr hy H;refine ⟨λh=>(by rw [h] at hr;cases hr),λj hj=>?_⟩;by_cases hji:j=i
  ·rw [if_neg (by omega)];subst hji;exact hy.qOp hi H
  ·have hjz:j ≠ z:=λe=>by
    subst e;obtain ⟨_,o,ho,ha⟩:=mem_ready.1 hj;have h1:=z8w hs hcl ho ha _ i lR hiz;have h0:=(mem_ready.1 hr).1
    rcases Nat.lt_or_ge i listed.size with h' | h'
    ·simp [h'] at h0 h1;rw [h0] at h1;cases h1
    ·simp [Array.getElem?_eq_none h'] at h1
   rw [if_neg hjz];have h1:=H.2 j (ready_mono hj hji);rw [if_neg hjz] at h1;obtain ⟨hjun,oj,hoj,hall⟩:=mem_ready.1 hj
   have hnot:∀ e ∈ oj.after,Region.binds .any e=true->e.on ≠ i:=λe he hb heq=>by
    have h1:=hall e he hb;have h0:=(mem_ready.1 hr).1;rw [heq] at h1
    rcases Nat.lt_or_ge i listed.size with h' | h'
    ·simp [h'] at h0 h1;rw [h0] at h1;cases h1
    ·simp [Array.getElem?_eq_none h'] at h1
   have h2:=qOp_put hoj (hfree j oj hoj hji hjun hnot) (λcs b=>hsel i oi cs b hi) (λcs b=>hsel j oj cs b hoj) hy h1
   have hfree':∀ k ok,ops[k]?=some ok->k ≠ i->(listed.setIfInBounds j true).getD k true=false ->
     (∀ e ∈ ok.after,Region.binds .any e=true->e.on ≠ i)->oi.apart ops ok=true:=λk ok hk hki hun hno=>by
    refine hfree k ok hk hki ?_ hno;by_cases hjk:j=k
    ·subst hjk;exact hjun
    ·rw [getD_set_ne true hjk] at hun;exact hun
   refine qOp_mono (λa' h3=>ih (listed.setIfInBounds j true) a' (z62 hcl hj) hfree' (ready_mono hr (Ne.symm hji)) h3.1 ?_) h2;rw [Array.setIfInBounds_comm _ _ hji];exact h3.2
theorem zat {Q:Exit->Act->World->Prop} {n z f:Nat} (hns:Region.noSelect ops=true) (hs:z7H ops z=true) (hz:Region.ready .any ops (z1v n z)=[z]):∀ (l:List Oper) (k:Nat) (a:Act),k+l.length=z->(∀ j,j < l.length->l[j]?=ops[k+j]?)->z2Q ops (λj=>(z1v n k).getD j false) ->
  Region.lexFrom .any ops (l.length+(f+1)) k (z1v n k)=true->wpQuiet P ops C (λa'=>∀ w',C w'->wpOp P ops Q z (wpAny P .any ops Q f (z1v n (z+1))) a' w') l a->z8A P ops C Q z (l.length+(f+1)) (z1v n k) a
 | [],k,a,hk,_,_,_,h=>by
  have hk':k=z:=(by simpa using hk);subst hk';rw [List.length_nil,Nat.zero_add];refine ⟨by rw [hz];simp,λi hi=>?_⟩;rw [hz] at hi;have hik:i=k:=(by simpa using hi);rw [if_pos hik];exact h
 | o :: l,k,a,hk,hl,hcl,hB,h=>by
  have h0:ops[k]?=some o:=(by simpa using (hl 0 (by simp)).symm);simp only [List.length_cons] at hk hB |-;rw [show l.length+1+(f+1)=(l.length+(f+1))+1 by omega] at hB |-;rw [Region.lexFrom] at hB;simp only [Bool.and_eq_true] at hB;obtain ⟨⟨hr,hf⟩,hB'⟩:=hB;have hr':k ∈ Region.ready .any ops (z1v n k):=(by simpa using hr);have hst:qOp P ops C k (wpQuiet P ops C (λa'=>∀ w',C w'->wpOp P ops Q z (wpAny P .any ops Q f (z1v n (z+1))) a' w') l) a:=(by unfold qOp;simp only [h0];exact h);obtain ⟨v,hy,hK⟩:=yieldsIn_of_qOp h0 hst
  exact zds hs h0 (by omega) (Region.noSelect_spec hns) (l.length+(f+1)) (z1v n k) a hcl (Region.free_spec h0 hf) hr' hy
   (zat hns hs hz l (k+1) _ (by omega) (λj hj=>by have:=hl (j+1) (by simpa using hj);simpa [Nat.add_assoc,Nat.add_comm 1 j] using this) (z62 hcl hr') hB' hK)
end
theorem zb6 {P:Program} {id:Nat} {Q:Exit->Act->World->Prop} {a:Act} {w:World} {l:List Oper} (n f:Nat) {o:Oper} (hm:P.follows .mixedOrders=true) (hl:l.length=n+(f+1)) (ho:l[n]?=some o) (hB:Region.lexB .any l.toArray=true) (hs:z7H l.toArray n=true) (hz:Region.ready .any l.toArray (z1v (n+(f+1)) n)=[n])
  (h:wpQuiet P l.toArray (λw'=>∃ p:BW w,w'=p.u) (λa'=>∀ w',(∃ p:BW w,w'=p.u)->if Region.wanted o (yielded l.toArray a'.tmps)=true then o.wp P a' w' (wpAny P .any l.toArray Q f (z1v (n+(f+1)) (n+1))) Q else wpAny P .any l.toArray Q f (z1v (n+(f+1)) (n+1)) (a'.put o.dst undef) w') (l.take n) a):(Code.region id l.toArray true).wp P Q a w:=by
 simp only [Region.lexB,Bool.and_eq_true] at hB;have hlt:(l.take n).length=n:=(by rw [List.length_take];omega);refine wp_region_any hm (zas (C:=λw'=>∃ p:BW w,w'=p.u) (z:=n) _ _ _ _ ⟨⟨_,z0X bR⟩,rfl⟩ ?_)
 have hcv:∀ a',(∀ w',(∃ p:BW w,w'=p.u)->if Region.wanted o (yielded l.toArray a'.tmps)=true then o.wp P a' w' (wpAny P .any l.toArray Q f (z1v (n+(f+1)) (n+1))) Q else wpAny P .any l.toArray Q f (z1v (n+(f+1)) (n+1)) (a'.put o.dst undef) w')->∀ w',(∃ p:BW w,w'=p.u)->wpOp P l.toArray Q n (wpAny P .any l.toArray Q f (z1v (n+(f+1)) (n+1))) a' w':=by
  intro a' hR w' hw';have h1:=hR w' hw';unfold wpOp;rw [show l.toArray[n]?=some o by simpa using ho];dsimp only
  split
  ·rename_i hw;rw [if_pos hw] at h1;exact .inl h1
  ·rename_i hw;rw [if_neg hw] at h1;exact h1
 have hmono:∀ (q:List Oper) (b:Act),wpQuiet P l.toArray (λw'=>∃ p:BW w,w'=p.u) (λa'=>∀ w',(∃ p:BW w,w'=p.u)->if Region.wanted o (yielded l.toArray a'.tmps)=true then o.wp P a' w' (wpAny P .any l.toArray Q f (z1v (n+(f+1)) (n+1))) Q else wpAny P .any l.toArray Q f (z1v (n+(f+1)) (n+1)) (a'.put o.dst undef) w') q b->wpQuiet P l.toArray (λw'=>∃ p:BW w,w'=p.u) (λa'=>∀ w',(∃ p:BW w,w'=p.u)->wpOp P l.toArray Q n (wpAny P .any l.toArray Q f (z1v (n+(f+1)) (n+1))) a' w') q b:=by
  intro q
  induction q with
  | nil=>intro b hb;exact hcv b hb
  | cons o q ih =>
   intro b hb;simp only [wpQuiet] at hb |-
   split
   ·rename_i hw;rw [if_pos hw] at hb;exact Oper.quiet_mono ih hb
   ·rename_i hw;rw [if_neg hw] at hb;exact ih _ hb
 have:=zat (P:=P) (Q:=Q) (n:=n+(f+1)) (f:=f) (C:=λw'=>∃ p:BW w,w'=p.u) hB.1 hs hz (l.take n) 0 a (by omega) (λj hj=>by rw [hlt] at hj;simp [hj]) (λj i _ _=>by
  show (Array.replicate (n+(f+1)) false).getD j false=false;rw [Array.getD_eq_getD_getElem?,Array.getElem?_replicate]
  split <;> rfl) (by rw [hlt];have h9:=hB.2;rw [show l.toArray.size=n+(f+1) by simpa using hl] at h9;exact h9) (hmono _ _ h)
 rw [hlt] at this;rw [show l.toArray.size=n+(f+1) by simpa using hl];exact this
end
section
open Go.RowKit
theorem zea (s:ByteArray) (hs:s.size<=maxLen) (w:World):Calls prog 141 #[.string s] w λe w'=>e=.returned (int i64 (z2A s))/\w'=w:=by
 unfold z2A;have hm:=hs;unfold maxLen at hm
 cases hok:z0u s
 all_goals
  go_enter func141,ntmps141;go_wp2_with (go_at_call 106;refine (z2H _ _ hs).mono ?_;rintro e w' ⟨rfl,rfl⟩;rw [hok])
  go_ret;exact ⟨rfl,rfl⟩
theorem z0I (v:Value) (l:List Int) (hl:l.length<=1000) (hw:l.all wtB=true) (w:World) (h:zA w v l) :
  Calls prog 52 #[v] w λe w'=>e=.returned (int i64 l.sum)/\w'=w:=by
 obtain ⟨a,cap,rfl,_⟩:=h.form;have H:=O h;have HW:=O (z3E hw);have HG:=O (λi hi=>z2P (i:=i) hw hi);clear h hw;go_enter func52,ntmps52;go_wp2_with fail
 go_loop [3,4] (λs i=>∃ k:Nat,k<=l.length/\i=int i64 k/\s=int i64 (zK l k)) (λ_ i=>l.length - (intOf i).toNat)
 case atStart=>exact ⟨0,nZ,rfl,by simp [zK]⟩
 case round =>
  obtain ⟨k,hk,rfl,rfl⟩:=hrel;by_cases hlt:k < l.length
  ·obtain ⟨b,off,cap',e',hc1,hc2,hbl,hx⟩:=H.out.get hlt;simp only [Value.slice.injEq,true_and] at e';obtain ⟨rfl,rfl⟩:=e';have hb1:=HW.out k hk;have hb2:=HG.out k hlt;have HS:=O (z1w hlt);generalize l.getD k 0=x at hx HS hb2;generalize zK l k=s at HS hb1;unfold maxLen at hc2;go_wp2
   go_round
   case rel=>exact ⟨k+1,by omega,by go_num,by rw [HS.out]⟩
   case measure=>simp [intOf];omega
  ·obtain rfl:k=l.length:=by omega
   have HE:=O (z1t l);go_wp2;go_ret;exact ⟨by rw [<-HE.out];rfl,rfl⟩
end
end Go.Proofs.YtggmjiddadjilahGreat
