/-
  PROVED HERE: what is shared is all of it; who weighs nothing gets nothing; who weighs more gets no less; plain theory. Also: small facts on sums that wrap round, for the texts on where columns begin and end. Also: columns made wide enough for one cell, as lists: what it lacks is shared among its columns by what they have. Also: how many cells rows have together. Also: what the program's sumOf answers of any list of numbers in memory; nothing in memory is turned. Also: what the program's acrossAll answers of any list of numbers in memory; nothing in memory is turned. Also: small facts on places of a grid, for the other texts of this claim. Also: what the program's reaches answers at every argument; nothing in memory is turned. Also: what the program's acrossAll and WidCell answer of any list of numbers in memory and any cell; nothing that was in memory is turned. Also: what is said of a column, as numbers. Also: how wide a text would be.
-/
import Derived.Test.YtcbibdhlkdcmiafGreatB20
import Derived.Test.YtcbibdhlkdcmiafGreatB19
import Derived.Test.YtcbibdhlkdcmiafGreatB5
import Derived.Test.YtcbibdhlkdcmiafGreatB6
import Derived.Test.YtcbibdhlkdcmiafGreatB7
import Derived.Test.YtcbibdhlkdcmiafGreatB1
import Derived.WalkLawsBesides
import Derived.WalkSpells
import Derived.Deep.RegionWith
import Derived.Deep.QuietTactic
import Derived.BigQuiet
import Derived.Laws.AppendOwn
namespace Go.Proofs.YtcbibdhlkdcmiafGreat
open Go.Sort

instance:DecidableEq Cl:=fun a b=>decidable_of_iff (a.p=b.p∧a.w=b.w∧a.o=b.o) (by cases a;cases b;simp)
theorem perm_sum {a b:List Int} (h:a.Perm b):a.sum=b.sum:=by
 induction h with
 | nil=>rfl
 | cons x _ ih=>rw [List.sum_cons,List.sum_cons,ih]
 | swap x y l=>simp only [List.sum_cons];omega
 | trans _ _ h1 h2=>exact h1.trans h2
theorem sum_set {l:List Int}:∀ {i:Nat},i < l.length→∀ x,(l.set i x).sum=l.sum - l.getD i 0+x:=by
 induction l with
 | nil=>intro i hi;cases hi
 | cons y r ih =>
  intro i hi x
  cases i with
  | zero=>simp [List.getD];omega
  | succ k =>
   have:=ih (i:=k) (by simpa using hi) x
   simp only [List.set_cons_succ,List.sum_cons,this]
   simp [List.getD]
   omega
theorem bump_sum {g:List Int} {c:Cl} (h:c.p.toNat < g.length):(bump g c).sum=g.sum+1:=by
 rw [bump,sum_set h]
 omega
theorem bumps_sum {t:Int} {u:List Int} {g:List Int} (hg:g.length=u.length):∀ k,k≤(srtL t u).length→(bumps g (srtL t u) k).sum=g.sum+k
 | 0,_=>by rw [bumps_zero];omega
 | k+1,hk=>by
  have hlt:k < (srtL t u).length:=by omega
  obtain ⟨i,hi,he⟩:=srtL_mem (List.getElem_mem hlt)
  rw [bumps_succ hlt,bump_sum (by rw [he,cl_place,bumps_len,hg];simpa using hi),bumps_sum hg k (by omega)]
  omega
theorem bumps_get {t:Int} {u:List Int} {g:List Int} (hg:g.length=u.length) {i:Nat} (hi:i < u.length):∀ k,k≤(srtL t u).length→(bumps g (srtL t u) k).getD i 0=g.getD i 0+if cl t u i ∈ (srtL t u).take k then 1 else 0
 | 0,_=>by rw [bumps_zero];simp
 | k+1,hk=>by
  have hlt:k < (srtL t u).length:=by omega
  obtain ⟨j,hj,he⟩:=srtL_mem (List.getElem_mem hlt)
  rw [bumps_succ hlt,bump_get _ _ _ (by rw [bumps_len,hg];exact hi),bumps_get hg hi k (by omega),he,cl_place,List.take_add_one,List.getElem?_eq_getElem hlt,he]
  have hno:cl t u j ∉ (srtL t u).take k:=fun hm=>by
   obtain ⟨q,hq,hqe⟩:=List.getElem_of_mem hm
   rw [List.length_take] at hq
   rw [List.getElem_take] at hqe
   exact List.pairwise_iff_getElem.1 (srt_nodup t u) q k (by omega) hlt (by omega) (by rw [hqe,he])
  by_cases e:j=i
  ·subst e
   simp [hno]
  ·have e2:cl t u i ≠ cl t u j:=fun h=>e (by have:=congrArg Cl.p h;rw [cl_place,cl_place] at this;omega)
   simp [e,e2]
/-- what each gets, in full -/
theorem share_get {t:Int} {l:List Int} (h1:shrOkB t l=true) {i:Nat} (hi:i < l.length) :
  (shareL t l).getD i 0=t * (wts l).getD i 0 / (wts l).sum+if cl t (wts l) i ∈ (srtL t (wts l)).take (leftN t (wts l)) then 1 else 0:=by
 have h0:0 < l.length:=by omega
 have hw:=(shrOk_parts h1).2
 have hp:=wts_pos hw.2 h0
 have hl:=left_eq (shrOk_wts h1) hp
 have hu:i < (wts l).length:=by rw [wts_len];exact hi
 rw [shareL_some h1 (List.length_pos_iff.1 h0),bumps_get (baseL_len _ _) hu _ (by rw [srtL_len];omega),baseL_get hu]
theorem share_sum {t:Int} {l:List Int} (h1:shrOkB t l=true) (h0:0 < l.length):(shareL t l).sum=t:=by
 have hw:=(shrOk_parts h1).2
 have hp:=wts_pos hw.2 h0
 have hk:=shrOk_wts h1
 have hl:=left_eq hk hp
 rw [shareL_some h1 (List.length_pos_iff.1 h0),bumps_sum (baseL_len _ _) _ (by rw [srtL_len];omega)]
 have:=base_sum hk hp (wts l).length (Nat.le_refl _)
 rw [← baseL_len t (wts l),sumTo_all,baseL_len] at this
 omega
/-- who comes ahead of somebody in the one order has got one, if that one has -/
theorem ahead_got {t:Int} {u:List Int} {i k j:Nat} (hi:i < u.length) (h:tB (cl t u i) (cl t u k)=true) (hk:cl t u k ∈ (srtL t u).take j):cl t u i ∈ (srtL t u).take j:=by
 have hm:=srt_mem (t:=t) hi
 rw [← List.take_append_drop j (srtL t u),List.mem_append] at hm
 rcases hm with hm | hm
 ·exact hm
 ·exfalso
  obtain ⟨q,hq,hqe⟩:=List.getElem_of_mem hk
  obtain ⟨p,hp,hpe⟩:=List.getElem_of_mem hm
  rw [List.length_take] at hq
  rw [List.getElem_take] at hqe
  rw [List.length_drop] at hp
  rw [List.getElem_drop] at hpe
  have:=List.pairwise_iff_getElem.1 (srt_sorted t u) q (j+p) (by omega) (by omega) (by omega)
  rw [hqe,hpe,h] at this
  cases this
theorem sum_map_o {t:Int} {u:List Int}:((srtL t u).map (·.o)).sum=(remL t u).sum:=by
 rw [srtL,remL]
 exact perm_sum ((List.mergeSort_perm (clL t u) _).map _)
theorem rem_sum {t:Int} {u:List Int} (h:shrOkB t u=true) (hs:0 < u.sum):∀ k,k≤u.length→sumTo (remL t u) k=t * sumTo u k - u.sum * dueTo t u k
 | 0,_=>by simp [sumTo,dueTo]
 | k+1,hk=>by
  have hlt:k < u.length:=by omega
  have m1:=Int.mul_ediv_add_emod (t * u.getD k 0) u.sum
  rw [sumTo_succ (by rw [remL_len];exact hlt),rem_sum h hs k (by omega),remL_get hlt,sumTo_succ hlt,dueTo,due_yes h (inB_nat hlt) (by omega),Int.toNat_natCast,Int.mul_add,Int.mul_add]
  omega
theorem sum_le_of {L:List Int} {B:Int} (h:∀ x ∈ L,x≤B):L.sum≤L.length * B:=by
 induction L with
 | nil=>simp
 | cons y r ih =>
  have h1:=ih (fun x hx=>h x (List.mem_cons_of_mem _ hx))
  have h2:=h y List.mem_cons_self
  rw [List.sum_cons,List.length_cons,Int.natCast_add,Int.add_mul]
  simp only [Int.natCast_one,Int.one_mul]
  omega
theorem rem_range {t:Int} {u:List Int} (hs:0 < u.sum) (i:Nat):0≤(cl t u i).o∧(cl t u i).o < u.sum:=⟨Int.emod_nonneg _ (by omega),Int.emod_lt_of_pos _ hs⟩
/-- nobody of whom nothing is left over gets one of the rest -/
theorem none_of_zero {t:Int} {u:List Int} (h:shrOkB t u=true) (hs:0 < u.sum) {i:Nat} (ho:(cl t u i).o=0):cl t u i ∉ (srtL t u).take (leftN t u):=by
 intro hm
 obtain ⟨q,hq,hqe⟩:=List.getElem_of_mem hm
 rw [List.length_take] at hq
 rw [List.getElem_take] at hqe
 have hlf:=left_eq h hs
 have hall:(srtL t u).map (·.o)=((srtL t u).take q).map (·.o) ++ ((srtL t u).drop q).map (·.o):=by rw [← List.map_append,List.take_append_drop]
 have hsum:((srtL t u).map (·.o)).sum=u.sum * leftN t u:=by
  rw [sum_map_o]
  have:=rem_sum h hs u.length (Nat.le_refl _)
  rw [← remL_len t u,sumTo_all,remL_len,sumTo_all] at this
  rw [this,hlf.1,Int.mul_sub,Int.mul_comm t]
 have h1:(((srtL t u).take q).map (·.o)).sum≤(((srtL t u).take q).map (·.o)).length * (u.sum - 1):=sum_le_of (fun x hx=>by
  obtain ⟨c,hc,rfl⟩:=List.mem_map.1 hx
  obtain ⟨j,_,rfl⟩:=srtL_mem (List.mem_of_mem_take hc)
  have:=(rem_range (t:=t) hs j).2
  omega)
 have h2:(((srtL t u).drop q).map (·.o)).sum≤(((srtL t u).drop q).map (·.o)).length * 0:=sum_le_of (fun x hx=>by
  obtain ⟨c,hc,rfl⟩:=List.mem_map.1 hx
  obtain ⟨p,hp,hpe⟩:=List.getElem_of_mem hc
  rw [List.length_drop] at hp
  rw [List.getElem_drop] at hpe
  have hle:tB (srtL t u)[q+p] (srtL t u)[q]=false:=by
   rcases Nat.eq_zero_or_pos p with rfl | hpp
   ·exact swoT.irrefl _
   ·exact List.pairwise_iff_getElem.1 (srt_sorted t u) q (q+p) (by omega) (by omega) (by omega)
  rw [hqe,hpe,tB_not] at hle
  omega)
 rw [hall,List.sum_append] at hsum
 simp only [List.length_map,List.length_take] at h1
 rw [Nat.min_eq_left (by omega)] at h1
 have h3:(q:Int) * (u.sum - 1) < u.sum * leftN t u:=by
  have e1:(q:Int) * (u.sum - 1)≤(q:Int) * u.sum:=Int.mul_le_mul_of_nonneg_left (by omega) (by omega)
  have e2:(q:Int) * u.sum < (leftN t u:Int) * u.sum:=Int.mul_lt_mul_of_pos_right (by omega) hs
  rw [Int.mul_comm u.sum]
  omega
 omega
theorem share_zero {t:Int} {l:List Int} (h1:shrOkB t l=true) (hs:l.sum ≠ 0) {i:Nat} (hi:i < l.length) (hz:l.getD i 0=0):(shareL t l).getD i 0=0:=by
 have hu:wts l=l:=by rw [wts,if_neg hs]
 have hp:=wts_pos (shrOk_parts h1).2.2 (show 0 < l.length by omega)
 rw [hu] at hp
 have:=none_of_zero (t:=t) h1 hp (i:=i) (by show t * l.getD i 0 % l.sum=0;rw [hz];simp)
 rw [share_get h1 hi,hu,if_neg this,hz]
 simp
theorem share_due {t:Int} {l:List Int} (h1:shrOkB t l=true) (hs:l.sum ≠ 0) {i:Nat} (hi:i < l.length):(shareL t l).getD i 0=dueV t l i∨(shareL t l).getD i 0=dueV t l i+1:=by
 have hu:wts l=l:=by rw [wts,if_neg hs]
 rw [share_get h1 hi,hu,due_yes h1 (inB_nat hi) hs,Int.toNat_natCast]
 split <;> omega
theorem share_upto {t:Int} {l:List Int} (h1:shrOkB t l=true) (hs:t < l.sum) {i:Nat} (hi:i < l.length):0≤(shareL t l).getD i 0∧(shareL t l).getD i 0≤l.getD i 0:=by
 obtain ⟨ht,_,hw⟩:=shrOk_parts h1
 have hwi:=wt_get hw hi
 have hsm:=shareL_small (t:=t) (l:=l) i (by rw [shareL_len h1];exact hi)
 refine ⟨hsm.1,?_⟩
 by_cases hz:l.getD i 0=0
 ·rw [share_zero h1 (by omega) hi hz];omega
 ·have hlt:t * l.getD i 0 / l.sum < l.getD i 0:=by
   apply Int.ediv_lt_of_lt_mul (by omega)
   rw [Int.mul_comm (l.getD i 0)]
   exact Int.mul_lt_mul_of_pos_right hs (by omega)
  rcases share_due h1 (show l.sum ≠ 0 by omega) hi with h | h
  ·rw [h,due_yes h1 (inB_nat hi) (by omega),Int.toNat_natCast];omega
  ·rw [h,due_yes h1 (inB_nat hi) (by omega),Int.toNat_natCast];omega
end Go.Proofs.YtcbibdhlkdcmiafGreat
namespace Go.Proofs.YtcbibdhlkdcmiafGreat
open Go.RowKit

theorem W_eq (n:Int):wrap64 n=(n+9223372036854775808) % 18446744073709551616 - 9223372036854775808:=by unfold wrap64;rfl
theorem W_addl (a b:Int):wrap64 (wrap64 a+b)=wrap64 (a+b):=by simp only [W_eq];omega
theorem W_addr (a b:Int):wrap64 (a+wrap64 b)=wrap64 (a+b):=by simp only [W_eq];omega
theorem W_small {a:Int} (h:-9223372036854775808≤a∧a≤9223372036854775807):wrap64 a=a:=by rw [W_eq];omega
theorem W_bounds (a:Int):-9223372036854775808≤wrap64 a∧wrap64 a≤9223372036854775807:=by rw [W_eq];omega
/-- how many columns are ahead of one -/
def aheadN (l:List Int) (col:Int):Nat:=(min (max col 0) l.length).toNat
/-- where a column begins -/
def atV (l:List Int) (gap col:Int):Int:=wrap64 (sumTo l (aheadN l col)+gap * (aheadN l col:Nat))
/-- where a column ends -/
def endV (l:List Int) (gap col:Int):Int:=if inB col 0 (l.length - 1)=true then wrap64 (atV l gap col+l.getD col.toNat 0) else 0
/-- the first k columns' widths that are of a cell -/
def ownL (l:List Int) (p:Nat→Bool):Nat→List Int
 | 0=>[]
 | k+1=>if p k=true then ownL l p k ++ [l.getD k 0] else ownL l p k
theorem ownL_len (l:List Int) (p:Nat→Bool):∀ k,(ownL l p k).length≤k
 | 0=>Nat.le_refl _
 | k+1=>by
  have:=ownL_len l p k
  unfold ownL
  split
  ·rw [List.length_append,List.length_singleton];omega
  ·omega
/-- columns together, and what stands between -/
def acrV (xs:List Int) (gap:Int):Int:=if xs.length=0 then 0 else wrap64 (xs.sum+gap * ((xs.length:Int) - 1))
theorem acrV_nil {xs:List Int} (h:xs.length=0) (gap:Int):acrV xs gap=0:=by unfold acrV;rw [if_pos h]
theorem acrV_cons {xs:List Int} (h:xs.length ≠ 0) (gap:Int):acrV xs gap=wrap64 (xs.sum+gap * ((xs.length:Int) - 1)):=by unfold acrV;rw [if_neg h]
/-- the next column of a cell: gap ahead of it, if it isn't the first one -/
theorem acrV_first (xs:List Int) (h:xs.length=0) (gap x:Int):acrV (xs ++ [x]) gap=wrap64 (acrV xs gap+x):=by
 obtain rfl:xs=[]:=List.eq_nil_of_length_eq_zero h
 rw [acrV_nil h,acrV_cons (by simp)]
 simp
theorem acrV_next (xs:List Int) (h:xs.length ≠ 0) (gap x:Int):acrV (xs ++ [x]) gap=wrap64 (wrap64 (acrV xs gap+gap)+x):=by
 rw [acrV_cons h,acrV_cons (by simp),W_addl,List.sum_append,List.length_append,List.length_singleton]
 have e:gap * (((xs.length+1:Nat):Int) - 1)=gap * ((xs.length:Int) - 1)+gap:=by
  rw [show (((xs.length+1:Nat):Int) - 1)=((xs.length:Int) - 1)+1 by omega,Int.mul_add,Int.mul_one]
 rw [e]
 simp only [List.sum_cons,List.sum_nil]
 generalize gap * ((xs.length:Int) - 1)=y
 generalize xs.sum=z
 simp only [W_eq]
 omega
theorem IntsAt.take {w:World} {a:Option Addr} {n cap:Nat} {l:List Int} (h:IntsAt w (.slice a n cap) l) {m:Nat} (hm:m≤l.length):IntsAt w (.slice a m cap) (l.take m):=by
 obtain ⟨a',cap',hv,h1,h2,h3⟩:=h
 simp only [Value.slice.injEq] at hv
 obtain ⟨rfl,rfl,rfl⟩:=hv
 have hl:(l.take m).length=m:=by rw [List.length_take];omega
 refine ⟨a,cap,by rw [hl],by omega,h2,fun i hi=>?_⟩
 rw [hl] at hi
 obtain ⟨b,off,h4,h5,h6⟩:=h3 i (by omega)
 refine ⟨b,off,h4,h5,?_⟩
 rw [h6]
 simp [List.getD,hi]
end Go.Proofs.YtcbibdhlkdcmiafGreat
namespace Go.Proofs.YtcbibdhlkdcmiafGreat
open Go.RowKit

/-- the columns of a cell -/
def subL (l:List Int) (c m:Nat):List Int:=(l.drop c).take m
theorem subL_len {l:List Int} {c m:Nat} (h:c+m≤l.length):(subL l c m).length=m:=by unfold subL;rw [List.length_take,List.length_drop];omega
theorem subL_get {l:List Int} {c m k:Nat} (_:c+m≤l.length) (hk:k < m):(subL l c m).getD k 0=l.getD (c+k) 0:=by
 unfold subL
 simp [List.getD,List.getElem?_take_of_lt hk,List.getElem?_drop]
theorem subL_mem {l:List Int} {c m:Nat} {x:Int} (h:x ∈ subL l c m):x ∈ l:=List.mem_of_mem_drop (List.mem_of_mem_take h)
/-- the first k columns of a cell get what is theirs -/
def addTo (l:List Int) (c:Nat) (more:List Int):Nat→List Int
 | 0=>l
 | k+1=>(addTo l c more k).set (c+k) (l.getD (c+k) 0+more.getD k 0)
theorem addTo_len (l:List Int) (c:Nat) (more:List Int):∀ k,(addTo l c more k).length=l.length
 | 0=>rfl
 | k+1=>by rw [addTo,List.length_set,addTo_len l c more k]
theorem addTo_out (l:List Int) (c:Nat) (more:List Int) {i:Nat}:∀ k,(∀ j,j < k→c+j ≠ i)→(addTo l c more k).getD i 0=l.getD i 0
 | 0,_=>rfl
 | k+1,h=>by
  rw [addTo]
  simp only [List.getD,List.getElem?_set_ne (h k (by omega))]
  exact addTo_out l c more k (fun j hj=>h j (by omega))
theorem addTo_in (l:List Int) (c:Nat) (more:List Int) {j:Nat}:∀ k,j < k→c+k≤l.length→(addTo l c more k).getD (c+j) 0=l.getD (c+j) 0+more.getD j 0
 | k+1,h,hl=>by
  rw [addTo]
  by_cases e:j=k
  ·subst e
   have:c+j < (addTo l c more j).length:=by rw [addTo_len];omega
   simp [List.getD,this]
  ·have:=addTo_in l c more (j:=j) k (by omega) (by omega)
   simp only [List.getD,List.getElem?_set_ne (show c+k ≠ c+j by omega)]
   exact this
/-- what a cell lacks -/
def lackV (l:List Int) (c m:Nat) (gap need:Int):Int:=need - ((subL l c m).sum+gap * ((m:Int) - 1))
def wideL (l:List Int) (c m:Nat) (gap need:Int):List Int:=if lackV l c m gap need≤0 then l else addTo l c (shareL (lackV l c m gap need) (subL l c m)) m
theorem wideL_len (l:List Int) (c m:Nat) (gap need:Int):(wideL l c m gap need).length=l.length:=by unfold wideL;split;rfl;exact addTo_len _ _ _ _
/-- numbers within bounds -/
def UpB (l:List Int) (B:Int):Prop:=∀ i,i < l.length→0≤l.getD i 0∧l.getD i 0≤B
theorem UpB.mem {l:List Int} {B:Int} (h:UpB l B) {x:Int} (hx:x ∈ l):0≤x∧x≤B:=by
 obtain ⟨i,hi,rfl⟩:=List.mem_iff_getElem.1 hx
 have:=h i hi
 simpa [List.getD,hi] using this
theorem sum_upB:∀ {l:List Int} {B:Int},(∀ x ∈ l,0≤x∧x≤B)→0≤l.sum∧l.sum≤l.length * B
 | [],_,_=>by simp
 | a :: l,B,h=>by
  have h1:=h a (by simp)
  have h2:=sum_upB (l:=l) (B:=B) (fun x hx=>h x (by simp [hx]))
  rw [List.sum_cons,List.length_cons,show ((l.length+1:Nat):Int) * B=l.length * B+B by rw [show ((l.length+1:Nat):Int)=(l.length:Int)+1 by omega,Int.add_mul,Int.one_mul]]
  omega
theorem mem_le_sum:∀ {l:List Int} {x:Int},(∀ y ∈ l,0≤y)→x ∈ l→x≤l.sum
 | a :: l,x,h,hx=>by
  have h1:=h a (by simp)
  rw [List.sum_cons]
  rcases List.mem_cons.1 hx with rfl | hx
  ·have:0≤l.sum:=by
    clear hx h1
    induction l with
    | nil=>simp
    | cons b l ih =>
     have hb:=h b (by simp)
     have:=ih (fun y hy=>h y (by rcases List.mem_cons.1 hy with rfl | hy;exact List.mem_cons_self;exact List.mem_cons_of_mem _ (List.mem_cons_of_mem _ hy)))
     rw [List.sum_cons];omega
   omega
  ·have:=mem_le_sum (fun y hy=>h y (List.mem_cons_of_mem _ hy)) hx
   omega
theorem lack_ok {l:List Int} {c m:Nat} {gap need:Int} (hb:UpB l 50000) (hc:c+m≤l.length) (hm:1≤m∧m≤4) (hg:0≤gap∧gap≤3) (hn:need≤30) (hl:0 < lackV l c m gap need) :
  shrOkB (lackV l c m gap need) (subL l c m)=true∧lackV l c m gap need≤30:=by
 have hs:=(sum_upB (fun x (hx:x ∈ subL l c m)=>hb.mem (subL_mem hx))).1
 have hgm:0≤gap * ((m:Int) - 1):=Int.mul_nonneg hg.1 (by omega)
 have h30:lackV l c m gap need≤30:=by unfold lackV;omega
 refine ⟨?_,h30⟩
 simp only [shrOkB,wtB,Bool.and_eq_true,decide_eq_true_eq,List.all_eq_true]
 refine ⟨⟨by omega,by rw [subL_len hc];omega⟩,fun x hx=>?_⟩
 have:=hb.mem (subL_mem hx)
 omega
theorem wideL_upB {l:List Int} {B:Int} {c m:Nat} {gap need:Int} (hb:UpB l B) (hB:B+30≤50000) (hc:c+m≤l.length) (hm:1≤m∧m≤4) (hg:0≤gap∧gap≤3) (hn:need≤30):UpB (wideL l c m gap need) (B+30):=by
 intro i hi
 rw [wideL_len] at hi
 have hbi:=hb i hi
 unfold wideL
 split
 ·omega
 ·rename_i hl
  obtain ⟨hok,h30⟩:=lack_ok (fun j hj=>⟨(hb j hj).1,by have:=(hb j hj).2;omega⟩) hc hm hg hn (by omega:0 < lackV l c m gap need)
  have hsl:=shareL_len hok
  rw [subL_len hc] at hsl
  by_cases hin:c≤i∧i < c+m
  ·obtain ⟨j,rfl⟩:∃ j,i=c+j:=⟨i - c,by omega⟩
   rw [addTo_in l c _ m (by omega) (by omega)]
   have h1:=shareL_small (t:=lackV l c m gap need) (l:=subL l c m) j (by omega)
   have h2:(shareL (lackV l c m gap need) (subL l c m)).getD j 0≤30:=by
    have hsum:=share_sum hok (by rw [subL_len hc];omega)
    have hall:∀ x ∈ shareL (lackV l c m gap need) (subL l c m),0≤x:=fun x hx=>by
     obtain ⟨k,hk,rfl⟩:=List.mem_iff_getElem.1 hx
     have:=(shareL_small (t:=lackV l c m gap need) (l:=subL l c m) k hk).1
     simpa [List.getD,hk] using this
    have hle:(shareL (lackV l c m gap need) (subL l c m)).getD j 0≤(shareL (lackV l c m gap need) (subL l c m)).sum:=by
     have hmem:(shareL (lackV l c m gap need) (subL l c m)).getD j 0 ∈ shareL (lackV l c m gap need) (subL l c m):=by
      have e:(shareL (lackV l c m gap need) (subL l c m)).getD j 0=(shareL (lackV l c m gap need) (subL l c m))[j]'(by omega):=by simp [List.getD,show j < (shareL (lackV l c m gap need) (subL l c m)).length by omega]
      rw [e];exact List.getElem_mem _
     exact mem_le_sum hall hmem
    omega
   omega
  ·rw [addTo_out l c _ m (fun j hj e=>hin ⟨by omega,by omega⟩)]
   omega
end Go.Proofs.YtcbibdhlkdcmiafGreat
namespace Go.Proofs.YtcbibdhlkdcmiafGreat
open Go.RowKit

def cnTo (rs:List R) (k:Nat):Nat:=((rs.take k).map (fun x=>x.cells.length)).sum
end Go.Proofs.YtcbibdhlkdcmiafGreat
namespace Go.Proofs.YtcbibdhlkdcmiafGreat
open Go.RowKit

set_option maxRecDepth 100000 in
set_option maxHeartbeats 1000000 in
theorem implsumOfW (v:Value) (l:List Int) (w:World) (h:IntsAt w v l) :
  Calls Tryz.prog 71 #[v] w fun e w'=>e=.returned (.int .i64 (wrap64 l.sum))∧w'=w:=by
 obtain ⟨a,cap,rfl,hlen⟩:=h.form
 have H:=Hid.intro h
 clear h
 go_enter Tryz.func71,Tryz.ntmps71
 go_wp2_with fail
 go_loop [3,8] (fun s i=>∃ k:Nat,k≤l.length∧i=.int .i64 k∧s=.int .i64 (wrap64 (sumTo l k))) (fun _ i=>l.length - (intOf i).toNat)
 case atStart=>exact ⟨0,Nat.zero_le _,rfl,by simp [sumTo,W_eq]⟩
 case round =>
  obtain ⟨k,hk,rfl,rfl⟩:=hrel
  by_cases hlt:k < l.length
  ·obtain ⟨b,off,cap',e',hc1,hc2,hbl,hx⟩:=H.out.get hlt
   simp only [Value.slice.injEq,true_and] at e'
   obtain ⟨rfl,rfl⟩:=e'
   have HS:Hid (wrap64 (wrap64 (sumTo l k)+l.getD k 0)=wrap64 (sumTo l (k+1))):=by rw [Hid,sumTo_succ hlt,W_addl]
   generalize l.getD k 0=x at hx HS
   generalize wrap64 (sumTo l k)=s at HS ⊢
   unfold maxLen at hc2
   go_wp2
   go_round
   case rel=>exact ⟨k+1,by omega,by go_num,by rw [← HS.out]⟩
   case measure=>simp [intOf];omega
  ·obtain rfl:k=l.length:=by omega
   have HE:=Hid.intro (sumTo_all l)
   go_wp2
   go_ret
   exact ⟨by rw [← HE.out];rfl,rfl⟩
end Go.Proofs.YtcbibdhlkdcmiafGreat
namespace Go.Proofs.YtcbibdhlkdcmiafGreat
open Go.RowKit

set_option maxRecDepth 100000 in
set_option maxHeartbeats 1000000 in
theorem implacrossAll (v:Value) (l:List Int) (gap:Int) (w:World) (h:IntsAt w v l) :
  Calls Tryz.prog 36 #[v,.int .i64 gap] w fun e w'=>e=.returned (.int .i64 (acrV l gap))∧w'=w:=by
 obtain ⟨a,cap,rfl,hlen⟩:=h.form
 have H:=Hid.intro h
 clear h
 by_cases h0:l.length=0
 ·have HV:=Hid.intro (acrV_nil h0 gap)
  rw [h0] at H ⊢
  clear h0
  go_enter Tryz.func36,Tryz.ntmps36
  go_wp2
  go_ret
  exact ⟨by rw [HV.out];rfl,rfl⟩
 ·have HV:Hid (acrV l gap=wrap64 (wrap64 l.sum+wrap64 (gap * ((l.length:Int) - 1)))):=by rw [Hid,acrV_cons h0,W_addl,W_addr]
  have h0':((l.length:Int) == 0)=false:=beq_eq_false_iff_ne.2 (by omega)
  have KS:=Hid.intro (implsumOfW _ l w H.out)
  go_enter Tryz.func36,Tryz.ntmps36
  go_wp2_with fail
  refine KS.out.mono ?_
  rintro e w1 ⟨rfl,rfl⟩
  go_wp2
  go_ret
  exact ⟨by rw [HV.out];rfl,rfl⟩
end Go.Proofs.YtcbibdhlkdcmiafGreat
namespace Go.Proofs.YtcbibdhlkdcmiafGreat
open Go.RowKit

theorem ret_boolG {a b:Bool} (h:a=b):Ending.returned (.bool a)=.returned (.bool b):=by rw [h]
def isIn (row ins:Int) (x:GC):Bool:=(x.row == row) && (x.ins == ins)
/-- whether a place is one of so many from a first one on -/
def amongB (x first many:Int):Bool:=decide (first≤x) && decide (0 < many) && decide (x - first < many)
def holdsB (row col:Int) (x:GC):Bool:=amongB row x.row x.rows && amongB col x.col x.cols

theorem wrap_sub {x f:Int} (hx:-9223372036854775808≤x∧x≤9223372036854775807) (hf:-9223372036854775808≤f∧f≤9223372036854775807) (h:f≤x):IntKind.u64.wrap (IntKind.u64.wrap x - IntKind.u64.wrap f)=x - f:=by
 simp [IntKind.wrap,IntKind.bits,IntKind.signed]
 omega

end Go.Proofs.YtcbibdhlkdcmiafGreat
namespace Go.Proofs.YtcbibdhlkdcmiafGreat
open Go.RowKit

theorem reaches_any (x f m:Int) (hx:I64 x) (hf:I64 f) (hm:I64 m) (w:World) :
  Calls Tryz.prog 66 #[.int .i64 f,.int .i64 m,.int .i64 x] w fun e w'=>e=.returned (.bool (amongB x f m))∧w'=w:=by
 unfold I64 at hx hf hm
 by_cases h1:f≤x
 ·by_cases h2:0 < m
  ·have e:amongB x f m=decide (x - f < m):=by simp [amongB];omega
   rw [e]
   go_enter Tryz.func66,Tryz.ntmps66
   go_wp2
   go_ret
   exact ⟨ret_boolG (by rw [wrap_sub hx hf h1]),rfl⟩
  ·have e:amongB x f m=false:=by simp [amongB];omega
   rw [e]
   go_enter Tryz.func66,Tryz.ntmps66
   go_wp2
   go_ret
   exact ⟨rfl,rfl⟩
 ·have e:amongB x f m=false:=by simp [amongB];omega
  rw [e]
  go_enter Tryz.func66,Tryz.ntmps66
  go_wp2
  go_ret
  exact ⟨rfl,rfl⟩
end Go.Proofs.YtcbibdhlkdcmiafGreat
namespace Go.Proofs.YtcbibdhlkdcmiafGreat
open Go.RowKit

/-- whether a column is of a cell -/
def inCell (x:GC) (k:Nat):Bool:=amongB (k:Int) x.col x.cols
def cellV (l:List Int) (gap:Int) (x:GC):Int:=acrV (ownL l (inCell x) l.length) gap

theorem infoIc:(Tryz.prog.info? 3).map (fun i=>(i.zero,i.size,i.bytes))=some (some (Value.int .i64 0),1,8):=by kernel_rfl
/-- what an append of one number leaves -/
theorem app_keeps {w w3 w4:World} {B n:Nat} {xs:List Value} {x:Int} {o:Value} (hB:w.heap.size≤B) (hO:w3.ownsRow B 3 1 o n xs) (K:Below w.heap.size w w3)
  (hg:(w3.alloc (.cells #[.int .i64 x] 3)).grownBy w4 o.ownBlock):Below w.heap.size w w4∧∀ g,g < B→g < w3.heap.size→w4.heap[g]?=w3.heap[g]?:=by
 have hA:=k_alloc K (.cells #[.int .i64 x] 3)
 refine ⟨⟨hg.os.trans hA.os,hg.tape.trans hA.tape,hg.output.trans hA.output,Nat.le_trans hA.size hg.size,fun k hk=>(hg.block k (Nat.lt_of_lt_of_le hk hA.size) (fun hb=>?_)).trans (hA.block k hk)⟩,fun k hk hl=>(hg.block k (by simp;omega) (fun hb=>?_)).trans (Below.heap_alloc _ _ _ hl)⟩
 ·have:=(hO.lt k hb.symm).1
  omega
 ·have:=(hO.lt k hb.symm).1
  omega
theorem ownL_yes {l:List Int} {p:Nat→Bool} {k:Nat} (h:p k=true):ownL l p (k+1)=ownL l p k ++ [l.getD k 0]:=by rw [ownL,if_pos h]
theorem ownL_no {l:List Int} {p:Nat→Bool} {k:Nat} (h:p k=false):ownL l p (k+1)=ownL l p k:=by rw [ownL,if_neg (by rw [h];simp)]

set_option maxRecDepth 100000 in
set_option maxHeartbeats 1000000 in
theorem implWidCell (v:Value) (l:List Int) (hl:l.length≤1048576) (gap:Int) (x:GC) (hx:GOk x) (w:World) (h:IntsAt w v l) :
  Calls Tryz.prog 32 #[v,.int .i64 gap,.agg #[.int .i64 x.row,.int .i64 x.col,.int .i64 x.rows,.int .i64 x.cols,.int .i64 x.ins]] w fun e w'=>e=.returned (.int .i64 (cellV l gap x))∧Below w.heap.size w w':=by
 obtain ⟨i0,hi,hz0,hz1,hz2⟩:=info_parts infoIc
 obtain ⟨a,cap,rfl,hlen⟩:=h.form
 obtain ⟨_,b1,_,b3,_⟩:=hx
 have K0:=k_alloc (Below.refl w.heap.size w) (.cells #[.int .i64 x.row,.int .i64 x.col,.int .i64 x.rows,.int .i64 x.cols,.int .i64 x.ins] 50)
 have X0:=newestB w (.cells #[.int .i64 x.row,.int .i64 x.col,.int .i64 x.rows,.int .i64 x.cols,.int .i64 x.ins] 50)
 have H:=Hid.intro h
 have HR:=Hid.intro (fun (k:Nat) (hk:k≤1048576)=>reaches_any (k:Int) x.col x.cols (by unfold I64;omega) b1 b3)
 clear h b1 b3
 go_enter Tryz.func32,Tryz.ntmps32
 go_wp2_with fail
 go_loopw [7,12] (fun o i W=>∃ k:Nat,i=.int .i64 k∧k≤l.length∧Hid (W.ownsRow (w.heap.size+1) 3 1 o (ownL l (inCell x) k).length ((ownL l (inCell x) k).map (Value.int .i64)))∧Hid (Below w.heap.size w W)∧Hid (W.heap[w.heap.size]?=some (.cells #[.int .i64 x.row,.int .i64 x.col,.int .i64 x.rows,.int .i64 x.cols,.int .i64 x.ins] 50))) (fun _ i _=>l.length - (intOf i).toNat)
 case atStart=>exact ⟨0,rfl,Nat.zero_le _,⟨by simp [ownL],.inl ⟨rfl,rfl⟩⟩,K0,X0⟩
 case round =>
  obtain ⟨k,rfl,hk,HO,HB,HX⟩:=hrel
  have c1:wr.cell? ⟨w.heap.size,1,none⟩=some (.int .i64 x.col):=cellB HX.out
  have c3:wr.cell? ⟨w.heap.size,3,none⟩=some (.int .i64 x.cols):=cellB HX.out
  by_cases hlt:k < l.length
  ·obtain ⟨b,off,cap',e',hc1,hc2,hbl,hy⟩:=(H.out.kept HB.out).get hlt
   simp only [Value.slice.injEq,true_and] at e'
   obtain ⟨rfl,rfl⟩:=e'
   unfold maxLen at hc2
   have KR:=Hid.intro (HR.out k (by omega) wr)
   have hol:=ownL_len l (inCell x) k
   cases hin:inCell x k with
   | false =>
    have HL:=Hid.intro (ownL_no (l:=l) hin)
    have hin':amongB (k:Int) x.col x.cols=false:=hin
    rw [hin'] at KR
    clear hin hin'
    generalize l.getD k 0=y at hy
    go_wp2_with fail
    refine KR.out.mono ?_
    rintro e w1 ⟨rfl,rfl⟩
    go_wp2
    go_roundw
    case rel=>exact ⟨k+1,by go_num,by omega,by rw [HL.out];exact HO,HB,HX⟩
    case measure=>simp [intOf];omega
   | true =>
    have HL:=Hid.intro (ownL_yes (l:=l) hin)
    have hin':amongB (k:Int) x.col x.cols=true:=hin
    rw [hin'] at KR
    clear hin hin'
    generalize l.getD k 0=y at hy HL
    generalize ownL l (inCell x) k=xs at HO HL hol
    go_wp2_with fail
    refine KR.out.mono ?_
    rintro e w1 ⟨rfl,rfl⟩
    have hO4:=HO.out
    have hsz:w.heap.size < w1.heap.size:=(Array.getElem?_eq_some_iff.1 HX.out).1
    go_wp2_with (at_builtin;refine wpList_append_own _ rfl _ _ 29 rfl (w.heap.size+1) 3 i0 (.int .i64 0) 1 8 Tryz.underlying29 hi hz0 hz1 hz2 rfl (by decide) _ _ _ rfl (hO4.alloc _) ⟨w1.heap.size,0,none⟩ 1 1 [.int .i64 y] rfl rfl ?c1 ?c2 ?c3 ?c4 ?c5 ?_)
    case c1 =>
     intro i u hi
     match i,hi with
     | 0,hi=>simp at hi;subst hi;simp [Addr.add]
    case c2=>intro u hu;simp at hu;subst hu;rfl
    case c3=>unfold maxLen;omega
    case c4=>omega
    case c5=>simp;omega
    intro v' w5 hown' hgrow' _
    obtain ⟨hB5,hX5⟩:=app_keeps (Nat.le_succ _) hO4 HB.out hgrow'
    have HB5:=Hid.intro hB5
    have HX5:=Hid.intro ((hX5 w.heap.size (Nat.lt_succ_self _) (Array.getElem?_eq_some_iff.1 HX.out).1).trans HX.out)
    have HO5:Hid (w5.ownsRow (w.heap.size+1) 3 1 v' (xs ++ [y]).length ((xs ++ [y]).map (Value.int .i64))):=by rw [List.length_append,List.map_append];exact hown'
    obtain ⟨g',cap'',rfl⟩:=Joins.ownsRow_form hown' (by omega)
    clear hown' hgrow' hO4 hB5 hX5 HO HB HX
    go_wp2
    go_roundw
    case rel=>exact ⟨k+1,by go_num,by omega,by rw [HL.out];exact HO5,HB5,HX5⟩
    case measure=>simp [intOf];omega
  ·obtain rfl:k=l.length:=by omega
   have hI:=(RowI.of_owns HO.out).at
   obtain ⟨aa,cc,rfl,_⟩:=hI.form
   have KA:=Hid.intro (implacrossAll _ _ gap wr hI)
   have HV:Hid (cellV l gap x=acrV (ownL l (inCell x) l.length) gap):=rfl
   clear hI
   go_wp2_with fail
   refine KA.out.mono ?_
   rintro e w1 ⟨rfl,rfl⟩
   go_wp2
   go_ret
   exact ⟨rfl,HB.out⟩
end Go.Proofs.YtcbibdhlkdcmiafGreat
namespace Go.Proofs.YtcbibdhlkdcmiafGreat
open Go.RowKit

/-- what is said of a column -/
def sd (ps:List (Int × Int)) (q:Int):Int × Int:=if inB q 0 (ps.length - 1)=true then ps.getD q.toNat (0,0) else (0,0)
theorem sd_no {ps:List (Int × Int)} {q:Int} (h:inB q 0 (ps.length - 1)=false):sd ps q=(0,0):=by unfold sd;rw [if_neg (by rw [h];simp)]
theorem sd_yes {ps:List (Int × Int)} {k:Nat} (h:k < ps.length):sd ps k=ps.getD k (0,0):=by unfold sd;rw [if_pos (inB_true (by omega) (by omega)),Int.toNat_natCast]
def sdT (t:T) (q:Int):Int × Int:=if tblB t=true then sd t.cols q else (0,0)
end Go.Proofs.YtcbibdhlkdcmiafGreat
namespace Go.Proofs.YtcbibdhlkdcmiafGreat
open Go.RowKit

/-- how wide a text would be -/
def wishOf (s:ByteArray):Nat:=if txtOkB s=true then s.size else 0
theorem wishOf_le (s:ByteArray):wishOf s≤30:=by
 unfold wishOf
 split
 ·rename_i h
  exact ((txtOkB_iff s).1 h).1
 ·omega
end Go.Proofs.YtcbibdhlkdcmiafGreat
