/-
  PROVED HERE: what is due to each, in order, as the program's claimsOf lays it: a row of claims in memory of its own. Also: what is due to all is no more than all, and less than that by fewer than there are; plain arithmetic. Also: plain theory of a stable sort of claims (their places ascend): rotations, merges in place, insertion; no program. Also: what is shared: what is whole of what is due to each, and one more to the first so many in the order of what is left over; plain theory. Also: the model's way to hand out what is left over, one by one, goes through the claims in the one order; plain theory. Also: what is shared is all of it; who weighs nothing gets nothing; who weighs more gets no less; plain theory. Also: small facts on sums that wrap round, for the texts on where columns begin and end.
-/
import Derived.Test.YtcbibdhlkdcmiafGreatB24
import Derived.Sort.LotA
import Derived.Sort.WalkA
namespace Go.Proofs.YtcbibdhlkdcmiafGreat
open Go.RowKit Go.Shelf Go.Lib Go.Sort

/-- the weights that count: all 1, if all are 0 -/
def wts (l:List Int):List Int:=if l.sum=0 then List.replicate l.length 1 else l
theorem wts_len (l:List Int):(wts l).length=l.length:=by unfold wts;split <;> simp
theorem sum_ones:∀ n:Nat,(List.replicate n (1:Int)).sum=n
 | 0=>rfl
 | n+1=>by rw [List.replicate_succ,List.sum_cons,sum_ones n];omega
theorem wts_wt {l:List Int} (h:l.all wtB=true):(wts l).all wtB=true:=by
 unfold wts
 split
 ·rw [List.all_eq_true];intro x hx;rw [(List.mem_replicate.1 hx).2];rfl
 ·exact h
theorem wts_pos {l:List Int} (h:l.all wtB=true) (h0:0 < l.length):0 < (wts l).sum:=by
 unfold wts
 split
 ·rw [sum_ones];omega
 ·have:=(sum_bound h).1;omega
/-- what is due to the i-th -/
def cl (t:Int) (u:List Int) (i:Nat):Cl:=⟨i,t * u.getD i 0 / u.sum,t * u.getD i 0 % u.sum⟩
def clL (t:Int) (u:List Int):List Cl:=(List.range u.length).map (cl t u)
theorem clL_len (t:Int) (u:List Int):(clL t u).length=u.length:=by simp [clL]
theorem clL_get {t:Int} {u:List Int} {i:Nat} (h:i < u.length):(clL t u)[i]?=some (cl t u i):=by simp [clL,h]
theorem clA_get {t:Int} {u:List Int} {i:Nat} (h:i < u.length):(clL t u).toArray[i]! = cl t u i:=by
 rw [getElem!_def,List.getElem?_toArray,clL_get h]

def newCl (n:Nat):Array Value:=madeCells (Value.agg #[.int .i64 0,.int .i64 0,.int .i64 0]).cells (n * 3)
theorem newCl_size (n:Nat):(newCl n).size=n * 3:=by rw [newCl,size_madeCells]
theorem infoCl:(Tryz.prog.info? 138).map (fun i=>(i.zero,i.size,i.bytes))=some (some (Value.agg #[.int .i64 0,.int .i64 0,.int .i64 0]),3,24):=by kernel_rfl
theorem makeCl (n:Nat) (hn:n≤1048576) (u:World):(Instr.makeSlice 135 (.int .i64 (n:Int)) (.int .i64 (n:Int))).run Tryz.prog u=.ok (.slice (some ⟨u.heap.size,0,none⟩) n n) (u.alloc (.cells (newCl n) 138)):=by
 obtain ⟨i0,hi,hz0,hz1,hz2⟩:=info_parts infoCl
 have h:=run_make (P:=Tryz.prog) u 135 138 i0 _ Tryz.underlying135 hi hz0 .i64 .i64 (n:Int) (n:Int) (by omega) (Int.le_refl _) (by rw [hz2];omega) (by omega)
 rw [hz1,Int.toNat_natCast] at h
 exact h
def ClArr (arr:Array Value) (L:Nat→Cl) (k:Nat):Prop:=∀ i,i < k→arr[i * 3]?=some (.int .i64 (L i).p)∧arr[i * 3+1]?=some (.int .i64 (L i).w)∧arr[i * 3+2]?=some (.int .i64 (L i).o)
theorem ClArr.next {arr:Array Value} {L:Nat→Cl} {k n:Nat} (h:ClArr arr L k) (hs:arr.size=n * 3) (hk:k < n) :
  ClArr (((arr.setIfInBounds (k * 3) (.int .i64 (L k).p)).setIfInBounds (k * 3+1) (.int .i64 (L k).w)).setIfInBounds (k * 3+2) (.int .i64 (L k).o)) L (k+1):=by
 have eq:∀ (A:Array Value) (i:Nat) (v:Value),i < A.size→(A.setIfInBounds i v)[i]?=some v:=fun A i v hi=>by simp [hi]
 intro i hi
 rcases Nat.lt_or_eq_of_le (Nat.lt_succ_iff.1 hi) with hlt | rfl
 ·obtain ⟨h1,h2,h3⟩:=h i hlt
  refine ⟨?_,?_,?_⟩
  ·rw [Array.getElem?_setIfInBounds_ne (by omega),Array.getElem?_setIfInBounds_ne (by omega),Array.getElem?_setIfInBounds_ne (by omega)];exact h1
  ·rw [Array.getElem?_setIfInBounds_ne (by omega),Array.getElem?_setIfInBounds_ne (by omega),Array.getElem?_setIfInBounds_ne (by omega)];exact h2
  ·rw [Array.getElem?_setIfInBounds_ne (by omega),Array.getElem?_setIfInBounds_ne (by omega),Array.getElem?_setIfInBounds_ne (by omega)];exact h3
 ·refine ⟨?_,?_,?_⟩
  ·rw [Array.getElem?_setIfInBounds_ne (by omega),Array.getElem?_setIfInBounds_ne (by omega)];exact eq _ _ _ (by omega)
  ·rw [Array.getElem?_setIfInBounds_ne (by omega)];exact eq _ _ _ (by rw [Array.size_setIfInBounds];omega)
  ·exact eq _ _ _ (by rw [Array.size_setIfInBounds,Array.size_setIfInBounds];omega)
theorem holds_of_arr {w:World} {g n:Nat} {arr:Array Value} {T:TypeId} {L:Nat→Cl} {d:Array Cl} (hg:w.heap[g]?=some (.cells arr T)) (ha:ClArr arr L n) (hd:d.size=n) (hL:∀ i,i < n→d[i]! = L i):HoldsK encC 3 w g 0 d:=by
 intro j hj
 rw [size_flatK,hd] at hj
 have hq:j / 3 < n:=by omega
 obtain ⟨h1,h2,h3⟩:=ha (j / 3) hq
 refine ⟨?_,freeB hg⟩
 rw [Nat.zero_add,cellB hg,get_flatK _ _ _ _ (by rw [hd];exact hj),hL _ hq]
 show arr[j]?=some ((encC (L (j / 3)))[j % 3]!)
 rcases (by omega:j % 3=0∨j % 3=1∨j % 3=2) with e | e | e
 ·rw [e];rw [show j=j / 3 * 3 by omega];rw [Nat.mul_div_cancel _ (by omega)];exact h1
 ·rw [e,show arr[j]?=arr[j / 3 * 3+1]? from by congr 1;omega];exact h2
 ·rw [e,show arr[j]?=arr[j / 3 * 3+2]? from by congr 1;omega];exact h3

/-- the loop's end -/
theorem row_claims {w:World} {g:Nat} {arr:Array Value} {t:Int} {u:List Int} (hg:w.heap[g]?=some (.cells arr 138)) (ha:ClArr arr (cl t u) u.length):RowK encC 3 w g 0 (clL t u).toArray :=
 ⟨encC_len,encC_one,holds_of_arr hg ha (by simp [clL_len]) (fun _ hi=>clA_get hi),(Array.getElem?_eq_some_iff.1 hg).1⟩
theorem rem_small {a s:Int} (hs:0 < s):0≤a % s∧a % s < s:=⟨Int.emod_nonneg _ (by omega),Int.emod_lt_of_pos _ hs⟩

set_option maxRecDepth 100000 in
set_option maxHeartbeats 4000000 in
theorem claimsOf_any (t:Int) (v:Value) (l:List Int) (ht:0≤t∧t≤100000) (h0:0 < l.length) (hl:l.length≤100) (hw:l.all wtB=true) (w:World) (h:IntsAt w v l) :
  Calls Tryz.prog 107 #[.int .i64 t,v] w fun e w'=>∃ g,e=.returned (.slice (some ⟨g,0,none⟩) l.length l.length)∧w.heap.size≤g∧RowK encC 3 w' g 0 (clL t (wts l)).toArray∧Below w.heap.size w w':=by
 obtain ⟨a,cap,rfl,_⟩:=h.form
 have H:=Hid.intro h
 clear h
 have HS:=Hid.intro (fun W=>implsumOf_any (.slice a l.length cap) l (by omega) hw W)
 have hmk:=makeCl l.length (by omega)
 have hpos:=wts_pos hw h0
 have hsb:=sum_bound (wts_wt hw)
 rw [wts_len] at hsb
 have HWT:=Hid.intro (wts_wt hw)
 have HLN:=Hid.intro (wts_len l)
 by_cases hz:l.sum=0
 ·have hwt:wts l=List.replicate l.length 1:=by rw [wts,if_pos hz]
  have hsum:(wts l).sum=l.length:=by rw [hwt,sum_ones]
  have HZ:=Hid.intro hz
  have HSM:=Hid.intro hsum
  have HU:=Hid.intro hwt
  rw [hz] at HS
  rw [hsum] at hpos hsb
  generalize wts l=u at HWT HLN HSM HU ⊢
  clear hz hsum hwt hw
  go_enter Tryz.func107,Tryz.ntmps107
  go_wp2_with fail
  refine (HS.out _ H.out).mono ?_
  rintro e w1 ⟨rfl,e1⟩
  cases e1
  go_wp2_with fail
  refine (repeat_any w.heap.size l.length h0 hl _ (by simp) (by simp)).mono ?_
  rintro e w2 ⟨a2,cap2,rfl,hr2,hb2⟩
  have R2:Hid (IntsAt w2 (.slice a2 l.length cap2) u):=by
   have:=hr2.at
   rw [← HU.out] at this
   exact this
  have K2:=Hid.intro (k_trans (k_alloc (Below.refl w.heap.size w) (.cells #[.int .i64 1] 3)) hb2)
  clear hr2 hb2
  go_wp2_with fail
  clear hmk
  have hw2:=K2.out.size
  go_loopw [24] (fun i W=>∃ (k:Nat) (arr:Array Value),k≤l.length∧i=.int .i64 k∧Hid (W.heap[w2.heap.size]?=some (.cells arr 138))∧arr.size=l.length * 3∧Hid (ClArr arr (cl t u) k)∧Hid (Below w2.heap.size w2 W)) (fun i _=>l.length - (intOf i).toNat)
  case atStart=>exact ⟨0,newCl l.length,Nat.zero_le _,rfl,newestB _ _,newCl_size _,fun i hi=>absurd hi (Nat.not_lt_zero _),k_alloc (Below.refl _ _) _⟩
  case round =>
   obtain ⟨k,arr,hk,rfl,HBk,hsz,HA,HB⟩:=hrel
   by_cases hlt:k < l.length
   ·have hku:k < u.length:=by rw [HLN.out];exact hlt
    obtain ⟨b,off,cap',e',hc1,hc2,hbl,hx⟩:=(R2.out.kept HB.out).get hku
    rw [HLN.out] at e' hc1
    simp only [Value.slice.injEq,true_and] at e'
    obtain ⟨rfl,rfl⟩:=e'
    have hx0:=wt_get HWT.out hku
    have hm:=mul_small ht hx0
    have HN:=Hid.intro (HA.out.next (n:=l.length) hsz hlt)
    have ecl:cl t u k=⟨k,t * u.getD k 0 / l.length,t * u.getD k 0 % l.length⟩:=by rw [cl,HSM.out]
    rw [ecl] at HN
    generalize u.getD k 0=x at hx hx0 hm HN
    clear ecl hku
    unfold maxLen at hc2
    obtain ⟨y0,q0⟩:=someB (p:=k * 3) HBk.out (by omega)
    obtain ⟨y1,q1⟩:=someB (p:=k * 3+1) HBk.out (by omega)
    obtain ⟨y2,q2⟩:=someB (p:=k * 3+2) HBk.out (by omega)
    have fz:∀ p,wr.frozen? ⟨w2.heap.size,p,none⟩=false:=fun p=>freeB HBk.out
    have hdv:=Int.ediv_nonneg hm.1 (show (0:Int)≤(l.length:Int) by omega)
    have hdw:=Int.le_trans (Int.ediv_le_self (l.length:Int) hm.1) hm.2
    have hrm:=rem_small (a:=t * x) (s:=(l.length:Int)) (by omega)
    go_wp2_with fail
    go_region
    all_goals
     go_wp2
     go_roundw
     case rel=>exact ⟨k+1,_,by omega,by go_num,setB (setB (setB HBk.out _) _) _,by rw [Array.size_setIfInBounds,Array.size_setIfInBounds,Array.size_setIfInBounds];exact hsz,HN,k_set (k_set (k_set (k_drew HB.out) (Nat.le_refl _) _) (Nat.le_refl _) _) (Nat.le_refl _) _⟩
     case measure=>simp [intOf];omega
   ·obtain rfl:k=l.length:=by omega
    go_wp2
    go_ret
    exact ⟨_,rfl,hw2,row_claims HBk.out (by rw [HLN.out];exact HA.out),k_trans K2.out HB.out⟩
 ·have hwt:wts l=l:=by rw [wts,if_neg hz]
  rw [hwt] at hpos hsb ⊢
  have hzb:(l.sum == 0)=false:=by simpa using hz
  have HG:=Hid.intro (fun i hi=>wt_get (i:=i) hw hi)
  have HSM:Hid (∀ k,cl t l k=⟨k,t * l.getD k 0 / l.sum,t * l.getD k 0 % l.sum⟩):=fun _=>rfl
  generalize l.sum=s at HS HSM hpos hsb hzb hz
  clear HWT HLN hwt hw
  go_enter Tryz.func107,Tryz.ntmps107
  go_wp2_with fail
  refine (HS.out _ H.out).mono ?_
  rintro e w1 ⟨rfl,e1⟩
  cases e1
  go_wp2_with fail
  clear hmk
  go_loopw [24] (fun i W=>∃ (k:Nat) (arr:Array Value),k≤l.length∧i=.int .i64 k∧Hid (W.heap[w.heap.size]?=some (.cells arr 138))∧arr.size=l.length * 3∧Hid (ClArr arr (cl t l) k)∧Hid (Below w.heap.size w W)) (fun i _=>l.length - (intOf i).toNat)
  case atStart=>exact ⟨0,newCl l.length,Nat.zero_le _,rfl,newestB _ _,newCl_size _,fun i hi=>absurd hi (Nat.not_lt_zero _),k_alloc (Below.refl _ _) _⟩
  case round =>
   obtain ⟨k,arr,hk,rfl,HBk,hsz,HA,HB⟩:=hrel
   by_cases hlt:k < l.length
   ·obtain ⟨b,off,cap',e',hc1,hc2,hbl,hx⟩:=(H.out.kept HB.out).get hlt
    simp only [Value.slice.injEq,true_and] at e'
    obtain ⟨rfl,rfl⟩:=e'
    have hx0:=HG.out k hlt
    have hm:=mul_small ht hx0
    have HN:=Hid.intro (HA.out.next (n:=l.length) hsz hlt)
    rw [HSM.out k] at HN
    generalize l.getD k 0=x at hx hx0 hm HN
    unfold maxLen at hc2
    obtain ⟨y0,q0⟩:=someB (p:=k * 3) HBk.out (by omega)
    obtain ⟨y1,q1⟩:=someB (p:=k * 3+1) HBk.out (by omega)
    obtain ⟨y2,q2⟩:=someB (p:=k * 3+2) HBk.out (by omega)
    have fz:∀ p,wr.frozen? ⟨w.heap.size,p,none⟩=false:=fun p=>freeB HBk.out
    have hdv:=Int.ediv_nonneg hm.1 (show (0:Int)≤s by omega)
    have hdw:=Int.le_trans (Int.ediv_le_self s hm.1) hm.2
    have hrm:=rem_small (a:=t * x) (s:=s) (by omega)
    go_wp2_with fail
    go_region
    all_goals
     go_wp2
     go_roundw
     case rel=>exact ⟨k+1,_,by omega,by go_num,setB (setB (setB HBk.out _) _) _,by rw [Array.size_setIfInBounds,Array.size_setIfInBounds,Array.size_setIfInBounds];exact hsz,HN,k_set (k_set (k_set (k_drew HB.out) (Nat.le_refl _) _) (Nat.le_refl _) _) (Nat.le_refl _) _⟩
     case measure=>simp [intOf];omega
   ·obtain rfl:k=l.length:=by omega
    go_wp2
    go_ret
    exact ⟨_,rfl,Nat.le_refl _,row_claims HBk.out HA.out,HB.out⟩
end Go.Proofs.YtcbibdhlkdcmiafGreat
namespace Go.Proofs.YtcbibdhlkdcmiafGreat
open Go.RowKit

/-- what is due to the first k, together -/
def dueTo (t:Int) (l:List Int):Nat→Int
 | 0=>0
 | k+1=>dueTo t l k+dueV t l k
theorem inB_nat {l:List Int} {k:Nat} (h:k < l.length):inB (k:Int) 0 ((l.length:Int) - 1)=true:=inB_true (by omega) (by omega)
theorem div_both {a s:Int} (hs:0 < s):s * (a / s)≤a∧a≤s * (a / s)+(s - 1):=by
 have h1:=Int.mul_ediv_add_emod a s
 have h2:=Int.emod_nonneg a (show s ≠ 0 by omega)
 have h3:=Int.emod_lt_of_pos a hs
 constructor <;> omega
theorem dueTo_both {t:Int} {l:List Int} (h:shrOkB t l=true) (hs:0 < l.sum):∀ k,k≤l.length→l.sum * dueTo t l k≤t * sumTo l k∧t * sumTo l k≤l.sum * dueTo t l k+k * (l.sum - 1)
 | 0,_=>by simp [dueTo,sumTo]
 | k+1,hk=>by
  obtain ⟨h1,h2⟩:=dueTo_both h hs k (by omega)
  have hlt:k < l.length:=by omega
  obtain ⟨h3,h4⟩:=div_both (a:=t * l.getD k 0) hs
  rw [dueTo,due_yes h (inB_nat hlt) (by omega),sumTo_succ hlt,Int.toNat_natCast,Int.mul_add,Int.mul_add]
  have e:((k+1:Nat):Int) * (l.sum - 1)=(k:Int) * (l.sum - 1)+(l.sum - 1):=by rw [Int.natCast_add,Int.add_mul];simp
  rw [e]
  constructor <;> omega
theorem dueTo_bounds {t:Int} {l:List Int} (h:shrOkB t l=true) (hs:0 < l.sum):dueTo t l l.length≤t∧t - l.length < dueTo t l l.length:=by
 obtain ⟨h1,h2⟩:=dueTo_both h hs l.length (Nat.le_refl _)
 rw [sumTo_all] at h1 h2
 have hl:0 < l.length:=by
  rcases Nat.eq_zero_or_pos l.length with h0 | h0
  ·rw [List.eq_nil_of_length_eq_zero h0] at hs;simp at hs
  ·exact h0
 generalize l.sum=s at *
 generalize dueTo t l l.length=d at *
 generalize l.length=n at *
 rw [Int.mul_comm t s] at h1 h2
 constructor
 ·exact Int.le_of_mul_le_mul_left h1 hs
 ·apply Int.lt_of_mul_lt_mul_left (a:=s) _ (by omega)
  rw [Int.mul_sub]
  have e:(n:Int) * (s - 1)=s * n - n:=by rw [Int.mul_sub,Int.mul_one,Int.mul_comm]
  omega
theorem dueV_bounds {t:Int} {l:List Int} (k:Int):0≤dueV t l k∧dueV t l k≤10000000000:=by
 by_cases h:(shrOkB t l && inB k 0 (l.length - 1) && l.sum != 0)=true
 ·rw [dueV,if_pos h]
  simp only [Bool.and_eq_true,bne_iff_ne] at h
  obtain ⟨⟨h1,h2⟩,h3⟩:=h
  obtain ⟨ht,hl,hw⟩:=shrOk_parts h1
  have hk:0≤k∧k≤(l.length:Int) - 1:=by simpa [inB] using h2
  have hm:=mul_small ht (wt_get hw (i:=k.toNat) (by omega))
  have hs:=(sum_bound hw).1
  exact ⟨Int.ediv_nonneg hm.1 hs,Int.le_trans (Int.ediv_le_self _ hm.1) hm.2⟩
 ·rw [dueV,if_neg h]
  omega
theorem dueTo_wide {t:Int} {l:List Int}:∀ k:Nat,0≤dueTo t l k∧dueTo t l k≤k * 10000000000
 | 0=>by simp [dueTo]
 | k+1=>by
  have h1:=dueTo_wide (t:=t) (l:=l) k
  have h2:=dueV_bounds (t:=t) (l:=l) k
  rw [dueTo]
  omega
end Go.Proofs.YtcbibdhlkdcmiafGreat
namespace Go.Proofs.YtcbibdhlkdcmiafGreat
open Go.Sort

theorem ltC_iff (x y:Cl):ltOf cfC x y=decide (y.o < x.o):=by
 unfold ltOf cfC
 split
 ·simp;omega
 ·split <;> (simp;omega)
/-- the one order of claims: most left over first, then by place -/
def tB (x y:Cl):Bool:=decide (y.o < x.o∨(x.o=y.o∧(x.p < y.p∨(x.p=y.p∧x.w < y.w))))
theorem tB_iff (x y:Cl):tB x y=true ↔ (y.o < x.o∨(x.o=y.o∧(x.p < y.p∨(x.p=y.p∧x.w < y.w)))):=by simp [tB]
theorem tB_not (x y:Cl):tB x y=false ↔ ¬ (y.o < x.o∨(x.o=y.o∧(x.p < y.p∨(x.p=y.p∧x.w < y.w)))):=by rw [← tB_iff];simp
theorem swoT:SWO tB where
 irrefl:=fun x=>by rw [tB_not];omega
 trans:=fun x y z h1 h2=>by rw [tB_iff] at *;omega
 ntrans:=fun x y z h1 h2=>by rw [tB_not] at *;omega
theorem tB_total (x y:Cl) (h1:tB x y=false) (h2:tB y x=false):x=y:=by
 rw [tB_not] at h1 h2
 obtain ⟨a,b,c⟩:=x
 obtain ⟨a',b',c'⟩:=y
 simp only at h1 h2
 obtain rfl:a=a':=by omega
 obtain rfl:b=b':=by omega
 obtain rfl:c=c':=by omega
 rfl
theorem lt_tB {x y:Cl} (h:y.p < x.p):ltOf cfC x y=tB x y:=by
 rw [ltC_iff,Bool.eq_iff_iff,tB_iff,decide_eq_true_eq];omega
theorem tB_asymm {x y:Cl} (h:tB x y=true):tB y x=false:=swoT.asymmA h
theorem inner_perm (lt:Cl→Cl→Bool) (a b:Nat):∀ (j:Nat) (d:Array Cl),a≤j→j < b→b≤d.size→PermIn a b d (insInner lt a j d)
 | 0,d,_,_,_=>by unfold insInner;exact permIn_refl d a b
 | j+1,d,haj,hjb,hb=>by
  unfold insInner
  split
  ·rename_i hc
   simp only [Bool.and_eq_true,decide_eq_true_eq] at hc
   exact permIn_trans _ _ _ a b (swp_permIn d a b (j+1) j haj hjb (by omega) (by omega) hb) (inner_perm lt a b j _ (by omega) (by omega) (by rw [size_swp];exact hb))
  ·exact permIn_refl d a b
theorem inner_eq (a:Nat):∀ (j:Nat) (d:Array Cl),j < d.size→(∀ q,a≤q→q < j→d[q]!.p < d[j]!.p)→insInner (ltOf cfC) a j d=insInner tB a j d
 | 0,d,_,_=>by unfold insInner;rfl
 | j+1,d,hj,h=>by
  unfold insInner
  by_cases ha:j+1 > a
  ·have e:ltOf cfC d[j+1]! d[j]! = tB d[j+1]! d[j]! := lt_tB (h j (by omega) (by omega))
   rw [e]
   cases hc:tB d[j+1]! d[j]!
   ·simp
   ·simp only [ha,decide_true,Bool.and_self,if_true]
    refine inner_eq a j _ (by rw [size_swp];omega) (fun q h1 h2=>?_)
    rw [swp_right _ _ _ (by omega),swp_other _ _ _ _ (by omega) (by omega)]
    exact h q h1 (by omega)
  ·simp [ha]
theorem outer_eq (a b:Nat):∀ (n i:Nat) (d:Array Cl),b - i=n→a < i→b≤d.size→(∀ x y,a≤x→x < y→i≤y→y < b→d[x]!.p < d[y]!.p)→insOuter (ltOf cfC) a b i d=insOuter tB a b i d
 | 0,i,d,hn,_,_,_=>by rw [insOuter_stop _ _ _ _ _ (by omega),insOuter_stop _ _ _ _ _ (by omega)]
 | n+1,i,d,hn,hai,hb,h=>by
  have hlt:i < b:=by omega
  rw [insOuter_go _ _ _ _ _ hlt,insOuter_go _ _ _ _ _ hlt,inner_eq a i d (by omega) (fun q h1 h2=>h q i h1 h2 (Nat.le_refl _) hlt)]
  have hP:=inner_perm tB a (i+1) i d (by omega) (by omega) (by omega)
  refine outer_eq a b n (i+1) _ (by omega) (by omega) (by rw [hP.1];exact hb) (fun x y h1 h2 h3 h4=>?_)
  rw [hP.2.1 y (Or.inr h3)]
  by_cases hx:x < i+1
  ·exact permIn_all d _ a (i+1) (fun z=>z.p < d[y]!.p) (by omega) hP (fun q h5 h6=>h q y h5 (by omega) (by omega) h4) x h1 hx
  ·rw [hP.2.1 x (Or.inr (by omega))]
   exact h x y h1 h2 (by omega) h4
/-- places ascend in a part -/
def Asc (a b:Nat) (d:Array Cl):Prop:=∀ x y,a≤x→x < y→y < b→d[x]!.p < d[y]!.p
theorem ins_sorts (d:Array Cl) (a b:Nat) (hab:a≤b) (hb:b≤d.size) (h:Asc a b d):PermIn a b d (Sort.insertionSort (ltOf cfC) d a b)∧SortedIn tB a b (Sort.insertionSort (ltOf cfC) d a b):=by
 have e:Sort.insertionSort (ltOf cfC) d a b=Sort.insertionSort tB d a b:=by
  unfold Sort.insertionSort
  exact outer_eq a b (b - (a+1)) (a+1) d rfl (by omega) hb (fun x y h1 h2 _ h4=>h x y h1 h2 h4)
 rw [e]
 exact insertionSort_holds swoT d a b hab hb
end Go.Proofs.YtcbibdhlkdcmiafGreat
namespace Go.Proofs.YtcbibdhlkdcmiafGreat
open Go.Sort

def baseL (t:Int) (u:List Int):List Int:=(clL t u).map (·.w)
theorem baseL_len (t:Int) (u:List Int):(baseL t u).length=u.length:=by simp [baseL,clL_len]
theorem baseL_get {t:Int} {u:List Int} {i:Nat} (h:i < u.length):(baseL t u).getD i 0=t * u.getD i 0 / u.sum:=by
 rw [List.getD,baseL,List.getElem?_map,clL_get h]
 rfl
theorem shrOk_wts {t:Int} {l:List Int} (h:shrOkB t l=true):shrOkB t (wts l)=true:=by
 simp only [shrOkB,Bool.and_eq_true] at h ⊢
 obtain ⟨⟨h1,h2⟩,h3⟩:=h
 exact ⟨⟨h1,by rw [wts_len];exact h2⟩,wts_wt h3⟩
theorem base_sum {t:Int} {u:List Int} (h:shrOkB t u=true) (hs:0 < u.sum):∀ k,k≤u.length→sumTo (baseL t u) k=dueTo t u k
 | 0,_=>by simp [sumTo,dueTo]
 | k+1,hk=>by
  have hlt:k < u.length:=by omega
  rw [sumTo_succ (by rw [baseL_len];exact hlt),base_sum h hs k (by omega),baseL_get hlt,dueTo,due_yes h (inB_nat hlt) (by omega),Int.toNat_natCast]
theorem dueTo_mono {t:Int} {u:List Int}:∀ {i j:Nat},i≤j→dueTo t u i≤dueTo t u j
 | i,0,h=>by
  obtain rfl:i=0:=by omega
  exact Int.le_refl _
 | i,j+1,h=>by
  rcases Nat.lt_or_eq_of_le h with h1 | rfl
  ·have:=dueTo_mono (t:=t) (u:=u) (i:=i) (j:=j) (by omega)
   have:=(dueV_bounds (t:=t) (l:=u) j).1
   rw [dueTo]
   omega
  ·exact Int.le_refl _
/-- how much is left over -/
def leftN (t:Int) (u:List Int):Nat:=(t - dueTo t u u.length).toNat
theorem left_eq {t:Int} {u:List Int} (h:shrOkB t u=true) (hs:0 < u.sum):(leftN t u:Int)=t - dueTo t u u.length∧leftN t u < u.length:=by
 have:=dueTo_bounds h hs
 unfold leftN
 omega
theorem asc_cl (t:Int) (u:List Int):Asc 0 (clL t u).toArray.size (clL t u).toArray:=by
 intro x y _ h1 h2
 have h3:y < u.length:=by simpa [clL_len] using h2
 rw [clA_get (by omega),clA_get h3]
 show (x:Int) < (y:Int)
 omega
/-- the claims in the one order -/
def srtL (t:Int) (u:List Int):List Cl:=(clL t u).mergeSort (fun x y=>!tB y x)
theorem srtL_len (t:Int) (u:List Int):(srtL t u).length=u.length:=by rw [srtL,List.length_mergeSort,clL_len]
theorem srtL_mem {t:Int} {u:List Int} {c:Cl} (h:c ∈ srtL t u):∃ i,i < u.length∧c=cl t u i:=by
 rw [srtL,List.mem_mergeSort,clL,List.mem_map] at h
 obtain ⟨i,h1,h2⟩:=h
 exact ⟨i,List.mem_range.1 h1,h2.symm⟩
theorem srt_of {t:Int} {u:List Int} {d:Array Cl} (hp:PermIn 0 (clL t u).toArray.size (clL t u).toArray d) (hs:SortedIn tB 0 (clL t u).toArray.size d):d=(srtL t u).toArray:=by
 have h:=sorted_unique_holds swoT tB_total (clL t u).toArray d hp hs
 apply Array.toList_inj.1
 rw [h]
 simp [srtL]
/-- one more for a claim's place -/
def bump (g:List Int) (c:Cl):List Int:=g.set c.p.toNat (g.getD c.p.toNat 0+1)
theorem bump_len (g:List Int) (c:Cl):(bump g c).length=g.length:=by simp [bump]
def bumps (g:List Int) (s:List Cl) (k:Nat):List Int:=(s.take k).foldl bump g
theorem bumps_zero (g:List Int) (s:List Cl):bumps g s 0=g:=rfl
theorem bumps_succ {g:List Int} {s:List Cl} {k:Nat} (h:k < s.length):bumps g s (k+1)=bump (bumps g s k) s[k]:=by
 unfold bumps
 rw [List.take_add_one,List.foldl_append,List.getElem?_eq_getElem h]
 rfl
theorem bumps_len (g:List Int) (s:List Cl):∀ k,(bumps g s k).length=g.length:=by
 intro k
 unfold bumps
 induction s.take k generalizing g with
 | nil=>rfl
 | cons c r ih=>rw [List.foldl_cons,ih,bump_len]
theorem bump_get (g:List Int) (c:Cl) (i:Nat) (hi:i < g.length):(bump g c).getD i 0=if c.p.toNat=i then g.getD i 0+1 else g.getD i 0:=by
 unfold bump
 by_cases e:c.p.toNat=i
 ·subst e
  simp [List.getD,hi]
 ·simp [List.getD,List.getElem?_set_ne e,e]
theorem bumps_bound {g:List Int} {s:List Cl} {B:Int} (hg:∀ i,i < g.length→0≤g.getD i 0∧g.getD i 0≤B):∀ k,k≤s.length→∀ i,i < g.length→0≤(bumps g s k).getD i 0∧(bumps g s k).getD i 0≤B+k
 | 0,_,i,hi=>by have:=hg i hi;rw [bumps_zero];omega
 | k+1,hk,i,hi=>by
  have ih:=bumps_bound (s:=s) hg k (by omega) i hi
  rw [bumps_succ (show k < s.length by omega),bump_get _ _ _ (by rw [bumps_len];exact hi)]
  split <;> omega
/-- what each gets -/
def shareL (t:Int) (l:List Int):List Int:=if shrOkB t l=true∧l ≠ [] then bumps (baseL t (wts l)) (srtL t (wts l)) (leftN t (wts l)) else []
theorem shareL_none {t:Int} {l:List Int} (h:¬ (shrOkB t l=true∧l ≠ [])):shareL t l=[]:=by rw [shareL,if_neg h]
theorem shareL_some {t:Int} {l:List Int} (h1:shrOkB t l=true) (h2:l ≠ []):shareL t l=bumps (baseL t (wts l)) (srtL t (wts l)) (leftN t (wts l)):=by rw [shareL,if_pos ⟨h1,h2⟩]
theorem shareL_len {t:Int} {l:List Int} (h1:shrOkB t l=true):(shareL t l).length=l.length:=by
 by_cases h2:l=[]
 ·subst h2;rw [shareL_none (by simp)]
 ·rw [shareL_some h1 h2,bumps_len,baseL_len,wts_len]
theorem base_small {t:Int} {u:List Int} (h:shrOkB t u=true) (hs:0 < u.sum) {i:Nat} (hi:i < u.length):0≤(baseL t u).getD i 0∧(baseL t u).getD i 0≤100000:=by
 have h1:=base_sum h hs i (by omega)
 have h2:=base_sum h hs (i+1) (by omega)
 rw [sumTo_succ (by rw [baseL_len];exact hi)] at h2
 have h3:=dueTo_mono (t:=t) (u:=u) (i:=i+1) (j:=u.length) (by omega)
 have h4:=(dueTo_bounds h hs).1
 have h5:=(shrOk_parts h).1
 have h6:=dueTo_wide (t:=t) (l:=u) i
 have h7:0≤(baseL t u).getD i 0:=by
  rw [baseL_get hi]
  have hw:=(shrOk_parts h).2.2
  exact Int.ediv_nonneg (mul_small h5 (wt_get hw hi)).1 (by omega)
 exact ⟨h7,by omega⟩
theorem shareL_small {t:Int} {l:List Int} (i:Nat) (hi:i < (shareL t l).length):0≤(shareL t l).getD i 0∧(shareL t l).getD i 0≤100200:=by
 by_cases hc:shrOkB t l=true∧l ≠ []
 ·obtain ⟨h1,h2⟩:=hc
  have hw:=(shrOk_parts h1).2
  have h0:0 < l.length:=List.length_pos_iff.2 h2
  have hp:=wts_pos hw.2 h0
  have hl:=left_eq (shrOk_wts h1) hp
  rw [shareL_len h1] at hi
  rw [shareL_some h1 h2]
  have:=bumps_bound (B:=100000) (s:=srtL t (wts l)) (fun j hj=>base_small (shrOk_wts h1) hp (by rw [baseL_len] at hj;exact hj)) (leftN t (wts l)) (by rw [srtL_len];omega) i (by rw [baseL_len,wts_len];exact hi)
  rw [wts_len] at hl
  omega
 ·rw [shareL_none hc] at hi
  cases hi
end Go.Proofs.YtcbibdhlkdcmiafGreat
namespace Go.Proofs.YtcbibdhlkdcmiafGreat
open Go.Sort

def remL (t:Int) (u:List Int):List Int:=(clL t u).map (·.o)
theorem remL_len (t:Int) (u:List Int):(remL t u).length=u.length:=by simp [remL,clL_len]
theorem remL_get {t:Int} {u:List Int} {i:Nat} (h:i < u.length):(remL t u).getD i 0=t * u.getD i 0 % u.sum:=by
 rw [List.getD,remL,List.getElem?_map,clL_get h]
 rfl
theorem take_next {l:List Int} {k:Nat} (h:k < l.length):l.take (k+1)=l.take k ++ [l.getD k 0]:=by
 rw [List.take_add_one]
 simp [List.getD,h]
/-- among the first m: the first one of those that have got none yet to whom most is left over -/
def NextP (lr:List Int) (bl:List Bool) (m:Nat) (k:Int):Prop :=
 (k=-1∧∀ i,i < m→bl.getD i false=true)∨∃ j:Nat,k=j∧j < m∧bl.getD j false=false∧∀ i,i < m→bl.getD i false=false→lr.getD i 0 < lr.getD j 0∨(lr.getD i 0=lr.getD j 0∧j≤i)
theorem NextP.zero (lr:List Int) (bl:List Bool):NextP lr bl 0 (-1):=.inl ⟨rfl,fun _ h=>absurd h (Nat.not_lt_zero _)⟩
theorem NextP.got {lr:List Int} {bl:List Bool} {m:Nat} {k:Int} (h:NextP lr bl m k) (hb:bl.getD m false=true):NextP lr bl (m+1) k:=by
 rcases h with ⟨h1,h2⟩ | ⟨j,h1,h2,h3,h4⟩
 ·refine .inl ⟨h1,fun i hi=>?_⟩
  rcases Nat.lt_or_eq_of_le (Nat.lt_succ_iff.1 hi) with h | rfl
  ·exact h2 i h
  ·exact hb
 ·refine .inr ⟨j,h1,by omega,h3,fun i hi hn=>?_⟩
  rcases Nat.lt_or_eq_of_le (Nat.lt_succ_iff.1 hi) with h | rfl
  ·exact h4 i h hn
  ·rw [hb] at hn;cases hn
theorem NextP.first {lr:List Int} {bl:List Bool} {m:Nat} (h:∀ i,i < m→bl.getD i false=true) (hb:bl.getD m false=false):NextP lr bl (m+1) m:=by
 refine .inr ⟨m,rfl,Nat.lt_succ_self _,hb,fun i hi hn=>?_⟩
 rcases Nat.lt_or_eq_of_le (Nat.lt_succ_iff.1 hi) with h1 | rfl
 ·rw [h i h1] at hn;cases hn
 ·exact .inr ⟨rfl,Nat.le_refl _⟩
theorem NextP.more {lr:List Int} {bl:List Bool} {m j:Nat} (h4:∀ i,i < m→bl.getD i false=false→lr.getD i 0 < lr.getD j 0∨(lr.getD i 0=lr.getD j 0∧j≤i)) (hb:bl.getD m false=false) (hm:lr.getD j 0 < lr.getD m 0):NextP lr bl (m+1) m:=by
 refine .inr ⟨m,rfl,Nat.lt_succ_self _,hb,fun i hi hn=>?_⟩
 rcases Nat.lt_or_eq_of_le (Nat.lt_succ_iff.1 hi) with h1 | rfl
 ·have:=h4 i h1 hn;left;omega
 ·exact .inr ⟨rfl,Nat.le_refl _⟩
theorem NextP.less {lr:List Int} {bl:List Bool} {m j:Nat} (hj:j < m) (h3:bl.getD j false=false) (h4:∀ i,i < m→bl.getD i false=false→lr.getD i 0 < lr.getD j 0∨(lr.getD i 0=lr.getD j 0∧j≤i)) (hm:¬ lr.getD j 0 < lr.getD m 0):NextP lr bl (m+1) j:=by
 refine .inr ⟨j,rfl,by omega,h3,fun i hi hn=>?_⟩
 rcases Nat.lt_or_eq_of_le (Nat.lt_succ_iff.1 hi) with h1 | rfl
 ·exact h4 i h1 hn
 ·omega
theorem srt_sorted (t:Int) (u:List Int):(srtL t u).Pairwise (fun x y=>tB y x=false):=by
 have:=List.pairwise_mergeSort (le:=fun x y:Cl=>!tB y x) (fun a b c h1 h2=>by
   simp only [Bool.not_eq_true'] at h1 h2 ⊢
   exact swoT.ntrans c b a h2 h1) (fun a b=>by
   cases h:tB b a with
   | false=>simp
   | true=>simp [tB_asymm h]) (clL t u)
 exact this.imp (fun h=>by simpa using h)
theorem cl_place (t:Int) (u:List Int) (i:Nat):(cl t u i).p=i:=rfl
theorem srt_nodup (t:Int) (u:List Int):(srtL t u).Nodup:=by
 rw [srtL,(List.mergeSort_perm _ _).nodup_iff,clL]
 refine List.Pairwise.map _ (fun a b (h:a ≠ b) e=>h ?_) List.nodup_range
 have:=congrArg Cl.p e
 rw [cl_place,cl_place] at this
 omega
theorem srt_mem {t:Int} {u:List Int} {i:Nat} (h:i < u.length):cl t u i ∈ srtL t u:=by
 rw [srtL,List.mem_mergeSort,clL]
 exact List.mem_map.2 ⟨i,List.mem_range.2 h,rfl⟩
/-- who has got one: the first j in the one order -/
def GotP (t:Int) (u:List Int) (bl:List Bool) (j:Nat):Prop:=∀ i,i < u.length→(bl.getD i false=true ↔ cl t u i ∈ (srtL t u).take j)
theorem got_zero (t:Int) (u:List Int) (n:Nat):GotP t u (List.replicate n false) 0:=fun i _=>by
 simp only [List.take_zero,List.not_mem_nil,iff_false]
 by_cases h:i < n <;> simp [List.getD,h]
theorem next_is {t:Int} {u:List Int} {bl:List Bool} {j:Nat} {k:Int} (hj:j < (srtL t u).length) (hg:GotP t u bl j) (hn:NextP (remL t u) bl u.length k):∃ i,i < u.length∧(srtL t u)[j]=cl t u i∧k=i∧bl.getD i false=false:=by
 obtain ⟨i,hi,he⟩:=srtL_mem (List.getElem_mem hj)
 have hno:bl.getD i false=false:=by
  cases hb:bl.getD i false with
  | false=>rfl
  | true =>
   exfalso
   have hm:=(hg i hi).1 hb
   rw [← he] at hm
   obtain ⟨q,hq,hqe⟩:=List.getElem_of_mem hm
   rw [List.length_take] at hq
   rw [List.getElem_take] at hqe
   exact List.pairwise_iff_getElem.1 (srt_nodup t u) q j (by omega) hj (by omega) hqe
 refine ⟨i,hi,he,?_,hno⟩
 rcases hn with ⟨_,h2⟩ | ⟨j',h1,h2,h3,h4⟩
 ·rw [h2 i hi] at hno;cases hno
 ·have hx:=h4 i hi hno
  have hm':cl t u j' ∈ (srtL t u).drop j:=by
   have:=srt_mem (t:=t) h2
   rw [← List.take_append_drop j (srtL t u),List.mem_append] at this
   rcases this with h | h
   ·exfalso
    rw [(hg j' h2).2 h] at h3
    cases h3
   ·exact h
  have hle:tB (cl t u j') (cl t u i)=false:=by
   rw [List.drop_eq_getElem_cons hj,List.mem_cons] at hm'
   rcases hm' with h | h
   ·rw [h,he];exact swoT.irrefl _
   ·have hp:=List.pairwise_iff_getElem.1 (srt_sorted t u)
    obtain ⟨q,hq,hqe⟩:=List.getElem_of_mem h
    rw [List.length_drop] at hq
    rw [List.getElem_drop] at hqe
    have:=hp j (j+1+q) hj (by omega) (by omega)
    rw [hqe,he] at this
    exact this
  rw [tB_not] at hle
  rw [remL_get hi,remL_get h2] at hx
  simp only [cl] at hle
  rw [h1]
  omega
theorem got_next {t:Int} {u:List Int} {bl:List Bool} {j i:Nat} (hl:bl.length=u.length) (hj:j < (srtL t u).length) (hg:GotP t u bl j) (he:(srtL t u)[j]=cl t u i):GotP t u (bl.set i true) (j+1):=by
 intro q hq
 rw [List.take_add_one,List.mem_append,List.getElem?_eq_getElem hj,he]
 by_cases e:i=q
 ·subst e
  simp [List.getD,hl,hq]
 ·have h1:(bl.set i true).getD q false=bl.getD q false:=by simp [List.getD,List.getElem?_set_ne e]
  rw [h1,hg q hq]
  simp only [Option.toList_some,List.mem_singleton]
  constructor
  ·exact Or.inl
  ·rintro (h | h)
   ·exact h
   ·exfalso
    have:=congrArg Cl.p h
    rw [cl_place,cl_place] at this
    omega
end Go.Proofs.YtcbibdhlkdcmiafGreat
namespace Go.Proofs.YtcbibdhlkdcmiafGreat
open Go.Sort

instance:DecidableEq Cl:=fun a b=>decidable_of_iff (a.p=b.p∧a.w=b.w∧a.o=b.o) (by cases a;cases b;simp)
theorem perm_sum {a b:List Int} (h:a.Perm b):a.sum=b.sum:=by
 induction h with
 | nil=>rfl
 | cons x _ ih=>rw [List.sum_cons,List.sum_cons,ih]
 | swap x y l=>simp only [List.sum_cons];omega
 | trans _ _ h1 h2=>exact h1.trans h2
theorem sum_set {l:List Int}:∀ {i:Nat},i < l.length→∀ x,(l.set i x).sum=l.sum - l.getD i 0+x:=by
 induction l with
 | nil=>intro i hi;cases hi
 | cons y r ih =>
  intro i hi x
  cases i with
  | zero=>simp [List.getD];omega
  | succ k =>
   have:=ih (i:=k) (by simpa using hi) x
   simp only [List.set_cons_succ,List.sum_cons,this]
   simp [List.getD]
   omega
theorem bump_sum {g:List Int} {c:Cl} (h:c.p.toNat < g.length):(bump g c).sum=g.sum+1:=by
 rw [bump,sum_set h]
 omega
theorem bumps_sum {t:Int} {u:List Int} {g:List Int} (hg:g.length=u.length):∀ k,k≤(srtL t u).length→(bumps g (srtL t u) k).sum=g.sum+k
 | 0,_=>by rw [bumps_zero];omega
 | k+1,hk=>by
  have hlt:k < (srtL t u).length:=by omega
  obtain ⟨i,hi,he⟩:=srtL_mem (List.getElem_mem hlt)
  rw [bumps_succ hlt,bump_sum (by rw [he,cl_place,bumps_len,hg];simpa using hi),bumps_sum hg k (by omega)]
  omega
theorem bumps_get {t:Int} {u:List Int} {g:List Int} (hg:g.length=u.length) {i:Nat} (hi:i < u.length):∀ k,k≤(srtL t u).length→(bumps g (srtL t u) k).getD i 0=g.getD i 0+if cl t u i ∈ (srtL t u).take k then 1 else 0
 | 0,_=>by rw [bumps_zero];simp
 | k+1,hk=>by
  have hlt:k < (srtL t u).length:=by omega
  obtain ⟨j,hj,he⟩:=srtL_mem (List.getElem_mem hlt)
  rw [bumps_succ hlt,bump_get _ _ _ (by rw [bumps_len,hg];exact hi),bumps_get hg hi k (by omega),he,cl_place,List.take_add_one,List.getElem?_eq_getElem hlt,he]
  have hno:cl t u j ∉ (srtL t u).take k:=fun hm=>by
   obtain ⟨q,hq,hqe⟩:=List.getElem_of_mem hm
   rw [List.length_take] at hq
   rw [List.getElem_take] at hqe
   exact List.pairwise_iff_getElem.1 (srt_nodup t u) q k (by omega) hlt (by omega) (by rw [hqe,he])
  by_cases e:j=i
  ·subst e
   simp [hno]
  ·have e2:cl t u i ≠ cl t u j:=fun h=>e (by have:=congrArg Cl.p h;rw [cl_place,cl_place] at this;omega)
   simp [e,e2]
/-- what each gets, in full -/
theorem share_get {t:Int} {l:List Int} (h1:shrOkB t l=true) {i:Nat} (hi:i < l.length) :
  (shareL t l).getD i 0=t * (wts l).getD i 0 / (wts l).sum+if cl t (wts l) i ∈ (srtL t (wts l)).take (leftN t (wts l)) then 1 else 0:=by
 have h0:0 < l.length:=by omega
 have hw:=(shrOk_parts h1).2
 have hp:=wts_pos hw.2 h0
 have hl:=left_eq (shrOk_wts h1) hp
 have hu:i < (wts l).length:=by rw [wts_len];exact hi
 rw [shareL_some h1 (List.length_pos_iff.1 h0),bumps_get (baseL_len _ _) hu _ (by rw [srtL_len];omega),baseL_get hu]
theorem share_sum {t:Int} {l:List Int} (h1:shrOkB t l=true) (h0:0 < l.length):(shareL t l).sum=t:=by
 have hw:=(shrOk_parts h1).2
 have hp:=wts_pos hw.2 h0
 have hk:=shrOk_wts h1
 have hl:=left_eq hk hp
 rw [shareL_some h1 (List.length_pos_iff.1 h0),bumps_sum (baseL_len _ _) _ (by rw [srtL_len];omega)]
 have:=base_sum hk hp (wts l).length (Nat.le_refl _)
 rw [← baseL_len t (wts l),sumTo_all,baseL_len] at this
 omega
/-- who comes ahead of somebody in the one order has got one, if that one has -/
theorem ahead_got {t:Int} {u:List Int} {i k j:Nat} (hi:i < u.length) (h:tB (cl t u i) (cl t u k)=true) (hk:cl t u k ∈ (srtL t u).take j):cl t u i ∈ (srtL t u).take j:=by
 have hm:=srt_mem (t:=t) hi
 rw [← List.take_append_drop j (srtL t u),List.mem_append] at hm
 rcases hm with hm | hm
 ·exact hm
 ·exfalso
  obtain ⟨q,hq,hqe⟩:=List.getElem_of_mem hk
  obtain ⟨p,hp,hpe⟩:=List.getElem_of_mem hm
  rw [List.length_take] at hq
  rw [List.getElem_take] at hqe
  rw [List.length_drop] at hp
  rw [List.getElem_drop] at hpe
  have:=List.pairwise_iff_getElem.1 (srt_sorted t u) q (j+p) (by omega) (by omega) (by omega)
  rw [hqe,hpe,h] at this
  cases this
theorem sum_map_o {t:Int} {u:List Int}:((srtL t u).map (·.o)).sum=(remL t u).sum:=by
 rw [srtL,remL]
 exact perm_sum ((List.mergeSort_perm (clL t u) _).map _)
theorem rem_sum {t:Int} {u:List Int} (h:shrOkB t u=true) (hs:0 < u.sum):∀ k,k≤u.length→sumTo (remL t u) k=t * sumTo u k - u.sum * dueTo t u k
 | 0,_=>by simp [sumTo,dueTo]
 | k+1,hk=>by
  have hlt:k < u.length:=by omega
  have m1:=Int.mul_ediv_add_emod (t * u.getD k 0) u.sum
  rw [sumTo_succ (by rw [remL_len];exact hlt),rem_sum h hs k (by omega),remL_get hlt,sumTo_succ hlt,dueTo,due_yes h (inB_nat hlt) (by omega),Int.toNat_natCast,Int.mul_add,Int.mul_add]
  omega
theorem sum_le_of {L:List Int} {B:Int} (h:∀ x ∈ L,x≤B):L.sum≤L.length * B:=by
 induction L with
 | nil=>simp
 | cons y r ih =>
  have h1:=ih (fun x hx=>h x (List.mem_cons_of_mem _ hx))
  have h2:=h y List.mem_cons_self
  rw [List.sum_cons,List.length_cons,Int.natCast_add,Int.add_mul]
  simp only [Int.natCast_one,Int.one_mul]
  omega
theorem rem_range {t:Int} {u:List Int} (hs:0 < u.sum) (i:Nat):0≤(cl t u i).o∧(cl t u i).o < u.sum:=⟨Int.emod_nonneg _ (by omega),Int.emod_lt_of_pos _ hs⟩
/-- nobody of whom nothing is left over gets one of the rest -/
theorem none_of_zero {t:Int} {u:List Int} (h:shrOkB t u=true) (hs:0 < u.sum) {i:Nat} (ho:(cl t u i).o=0):cl t u i ∉ (srtL t u).take (leftN t u):=by
 intro hm
 obtain ⟨q,hq,hqe⟩:=List.getElem_of_mem hm
 rw [List.length_take] at hq
 rw [List.getElem_take] at hqe
 have hlf:=left_eq h hs
 have hall:(srtL t u).map (·.o)=((srtL t u).take q).map (·.o) ++ ((srtL t u).drop q).map (·.o):=by rw [← List.map_append,List.take_append_drop]
 have hsum:((srtL t u).map (·.o)).sum=u.sum * leftN t u:=by
  rw [sum_map_o]
  have:=rem_sum h hs u.length (Nat.le_refl _)
  rw [← remL_len t u,sumTo_all,remL_len,sumTo_all] at this
  rw [this,hlf.1,Int.mul_sub,Int.mul_comm t]
 have h1:(((srtL t u).take q).map (·.o)).sum≤(((srtL t u).take q).map (·.o)).length * (u.sum - 1):=sum_le_of (fun x hx=>by
  obtain ⟨c,hc,rfl⟩:=List.mem_map.1 hx
  obtain ⟨j,_,rfl⟩:=srtL_mem (List.mem_of_mem_take hc)
  have:=(rem_range (t:=t) hs j).2
  omega)
 have h2:(((srtL t u).drop q).map (·.o)).sum≤(((srtL t u).drop q).map (·.o)).length * 0:=sum_le_of (fun x hx=>by
  obtain ⟨c,hc,rfl⟩:=List.mem_map.1 hx
  obtain ⟨p,hp,hpe⟩:=List.getElem_of_mem hc
  rw [List.length_drop] at hp
  rw [List.getElem_drop] at hpe
  have hle:tB (srtL t u)[q+p] (srtL t u)[q]=false:=by
   rcases Nat.eq_zero_or_pos p with rfl | hpp
   ·exact swoT.irrefl _
   ·exact List.pairwise_iff_getElem.1 (srt_sorted t u) q (q+p) (by omega) (by omega) (by omega)
  rw [hqe,hpe,tB_not] at hle
  omega)
 rw [hall,List.sum_append] at hsum
 simp only [List.length_map,List.length_take] at h1
 rw [Nat.min_eq_left (by omega)] at h1
 have h3:(q:Int) * (u.sum - 1) < u.sum * leftN t u:=by
  have e1:(q:Int) * (u.sum - 1)≤(q:Int) * u.sum:=Int.mul_le_mul_of_nonneg_left (by omega) (by omega)
  have e2:(q:Int) * u.sum < (leftN t u:Int) * u.sum:=Int.mul_lt_mul_of_pos_right (by omega) hs
  rw [Int.mul_comm u.sum]
  omega
 omega
theorem share_zero {t:Int} {l:List Int} (h1:shrOkB t l=true) (hs:l.sum ≠ 0) {i:Nat} (hi:i < l.length) (hz:l.getD i 0=0):(shareL t l).getD i 0=0:=by
 have hu:wts l=l:=by rw [wts,if_neg hs]
 have hp:=wts_pos (shrOk_parts h1).2.2 (show 0 < l.length by omega)
 rw [hu] at hp
 have:=none_of_zero (t:=t) h1 hp (i:=i) (by show t * l.getD i 0 % l.sum=0;rw [hz];simp)
 rw [share_get h1 hi,hu,if_neg this,hz]
 simp
theorem share_due {t:Int} {l:List Int} (h1:shrOkB t l=true) (hs:l.sum ≠ 0) {i:Nat} (hi:i < l.length):(shareL t l).getD i 0=dueV t l i∨(shareL t l).getD i 0=dueV t l i+1:=by
 have hu:wts l=l:=by rw [wts,if_neg hs]
 rw [share_get h1 hi,hu,due_yes h1 (inB_nat hi) hs,Int.toNat_natCast]
 split <;> omega
theorem share_upto {t:Int} {l:List Int} (h1:shrOkB t l=true) (hs:t < l.sum) {i:Nat} (hi:i < l.length):0≤(shareL t l).getD i 0∧(shareL t l).getD i 0≤l.getD i 0:=by
 obtain ⟨ht,_,hw⟩:=shrOk_parts h1
 have hwi:=wt_get hw hi
 have hsm:=shareL_small (t:=t) (l:=l) i (by rw [shareL_len h1];exact hi)
 refine ⟨hsm.1,?_⟩
 by_cases hz:l.getD i 0=0
 ·rw [share_zero h1 (by omega) hi hz];omega
 ·have hlt:t * l.getD i 0 / l.sum < l.getD i 0:=by
   apply Int.ediv_lt_of_lt_mul (by omega)
   rw [Int.mul_comm (l.getD i 0)]
   exact Int.mul_lt_mul_of_pos_right hs (by omega)
  rcases share_due h1 (show l.sum ≠ 0 by omega) hi with h | h
  ·rw [h,due_yes h1 (inB_nat hi) (by omega),Int.toNat_natCast];omega
  ·rw [h,due_yes h1 (inB_nat hi) (by omega),Int.toNat_natCast];omega
end Go.Proofs.YtcbibdhlkdcmiafGreat
namespace Go.Proofs.YtcbibdhlkdcmiafGreat
open Go.RowKit

theorem W_eq (n:Int):wrap64 n=(n+9223372036854775808) % 18446744073709551616 - 9223372036854775808:=by unfold wrap64;rfl
theorem W_addl (a b:Int):wrap64 (wrap64 a+b)=wrap64 (a+b):=by simp only [W_eq];omega
theorem W_addr (a b:Int):wrap64 (a+wrap64 b)=wrap64 (a+b):=by simp only [W_eq];omega
theorem W_small {a:Int} (h:-9223372036854775808≤a∧a≤9223372036854775807):wrap64 a=a:=by rw [W_eq];omega
theorem W_bounds (a:Int):-9223372036854775808≤wrap64 a∧wrap64 a≤9223372036854775807:=by rw [W_eq];omega
/-- how many columns are ahead of one -/
def aheadN (l:List Int) (col:Int):Nat:=(min (max col 0) l.length).toNat
/-- where a column begins -/
def atV (l:List Int) (gap col:Int):Int:=wrap64 (sumTo l (aheadN l col)+gap * (aheadN l col:Nat))
/-- where a column ends -/
def endV (l:List Int) (gap col:Int):Int:=if inB col 0 (l.length - 1)=true then wrap64 (atV l gap col+l.getD col.toNat 0) else 0
/-- the first k columns' widths that are of a cell -/
def ownL (l:List Int) (p:Nat→Bool):Nat→List Int
 | 0=>[]
 | k+1=>if p k=true then ownL l p k ++ [l.getD k 0] else ownL l p k
theorem ownL_len (l:List Int) (p:Nat→Bool):∀ k,(ownL l p k).length≤k
 | 0=>Nat.le_refl _
 | k+1=>by
  have:=ownL_len l p k
  unfold ownL
  split
  ·rw [List.length_append,List.length_singleton];omega
  ·omega
/-- columns together, and what stands between -/
def acrV (xs:List Int) (gap:Int):Int:=if xs.length=0 then 0 else wrap64 (xs.sum+gap * ((xs.length:Int) - 1))
theorem acrV_nil {xs:List Int} (h:xs.length=0) (gap:Int):acrV xs gap=0:=by unfold acrV;rw [if_pos h]
theorem acrV_cons {xs:List Int} (h:xs.length ≠ 0) (gap:Int):acrV xs gap=wrap64 (xs.sum+gap * ((xs.length:Int) - 1)):=by unfold acrV;rw [if_neg h]
/-- the next column of a cell: gap ahead of it, if it isn't the first one -/
theorem acrV_first (xs:List Int) (h:xs.length=0) (gap x:Int):acrV (xs ++ [x]) gap=wrap64 (acrV xs gap+x):=by
 obtain rfl:xs=[]:=List.eq_nil_of_length_eq_zero h
 rw [acrV_nil h,acrV_cons (by simp)]
 simp
theorem acrV_next (xs:List Int) (h:xs.length ≠ 0) (gap x:Int):acrV (xs ++ [x]) gap=wrap64 (wrap64 (acrV xs gap+gap)+x):=by
 rw [acrV_cons h,acrV_cons (by simp),W_addl,List.sum_append,List.length_append,List.length_singleton]
 have e:gap * (((xs.length+1:Nat):Int) - 1)=gap * ((xs.length:Int) - 1)+gap:=by
  rw [show (((xs.length+1:Nat):Int) - 1)=((xs.length:Int) - 1)+1 by omega,Int.mul_add,Int.mul_one]
 rw [e]
 simp only [List.sum_cons,List.sum_nil]
 generalize gap * ((xs.length:Int) - 1)=y
 generalize xs.sum=z
 simp only [W_eq]
 omega
theorem IntsAt.take {w:World} {a:Option Addr} {n cap:Nat} {l:List Int} (h:IntsAt w (.slice a n cap) l) {m:Nat} (hm:m≤l.length):IntsAt w (.slice a m cap) (l.take m):=by
 obtain ⟨a',cap',hv,h1,h2,h3⟩:=h
 simp only [Value.slice.injEq] at hv
 obtain ⟨rfl,rfl,rfl⟩:=hv
 have hl:(l.take m).length=m:=by rw [List.length_take];omega
 refine ⟨a,cap,by rw [hl],by omega,h2,fun i hi=>?_⟩
 rw [hl] at hi
 obtain ⟨b,off,h4,h5,h6⟩:=h3 i (by omega)
 refine ⟨b,off,h4,h5,?_⟩
 rw [h6]
 simp [List.getD,hi]
end Go.Proofs.YtcbibdhlkdcmiafGreat
