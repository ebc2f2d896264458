/-
  PROVED HERE: what is shared: what is whole of what is due to each, and one more to the first so many in the order of what is left over; plain theory. Also: 9 more texts of the same proof.
-/
import Derived.Test.YtggmjiddadjilaeGreatC22
import Derived.Test.YtggmjiddadjilaeGreatC12
import Derived.Test.YtggmjiddadjilaeGreatC13
import Derived.Test.YtggmjiddadjilaeGreatC2
import Derived.WalkLawsBesides
import Derived.WalkSpells
namespace Go.Proofs.YtggmjiddadjilaeGreat
open Go.Sort
def baseL (t:Int) (u:List Int):List Int:=(clL t u).map (·.w)
theorem baseL_len (t:Int) (u:List Int):(baseL t u).length=u.length:=by simp [baseL,clL_len]
theorem baseL_get {t:Int} {u:List Int} {i:Nat} (h:i < u.length):(baseL t u).getD i 0=t * u.getD i 0 / u.sum:=by
 rw [List.getD,baseL,List.getElem?_map,clL_get h]
 rfl
theorem shrOk_wts {t:Int} {l:List Int} (h:shrOkB t l=true):shrOkB t (wts l)=true:=by
 simp only [shrOkB,Bool.and_eq_true] at h ⊢
 obtain ⟨⟨h1,h2⟩,h3⟩:=h
 exact ⟨⟨h1,by rw [wts_len];exact h2⟩,wts_wt h3⟩
theorem base_sum {t:Int} {u:List Int} (h:shrOkB t u=true) (hs:0 < u.sum):∀ k,k≤u.length→sumTo (baseL t u) k=dueTo t u k
 | 0,_=>by simp [sumTo,dueTo]
 | k+1,hk=>by
  have hlt:k < u.length:=by omega
  rw [sumTo_succ (by rw [baseL_len];exact hlt),base_sum h hs k (by omega),baseL_get hlt,dueTo,due_yes h (inB_nat hlt) (by omega),Int.toNat_natCast]
theorem dueTo_mono {t:Int} {u:List Int}:∀ {i j:Nat},i≤j→dueTo t u i≤dueTo t u j
 | i,0,h=>by
  obtain rfl:i=0:=by omega
  exact Int.le_refl _
 | i,j+1,h=>by
  rcases Nat.lt_or_eq_of_le h with h1 | rfl
  ·have:=dueTo_mono (t:=t) (u:=u) (i:=i) (j:=j) (by omega)
   have:=(dueV_bounds (t:=t) (l:=u) j).1
   rw [dueTo]
   omega
  ·exact Int.le_refl _
def leftN (t:Int) (u:List Int):Nat:=(t - dueTo t u u.length).toNat
theorem left_eq {t:Int} {u:List Int} (h:shrOkB t u=true) (hs:0 < u.sum):(leftN t u:Int)=t - dueTo t u u.length∧leftN t u < u.length:=by
 have:=dueTo_bounds h hs
 unfold leftN
 omega
theorem asc_cl (t:Int) (u:List Int):Asc 0 (clL t u).toArray.size (clL t u).toArray:=by
 intro x y _ h1 h2
 have h3:y < u.length:=by simpa [clL_len] using h2
 rw [clA_get (by omega),clA_get h3]
 show (x:Int) < (y:Int)
 omega
def srtL (t:Int) (u:List Int):List Cl:=(clL t u).mergeSort (fun x y=>!tB y x)
theorem srtL_len (t:Int) (u:List Int):(srtL t u).length=u.length:=by rw [srtL,List.length_mergeSort,clL_len]
theorem srtL_mem {t:Int} {u:List Int} {c:Cl} (h:c ∈ srtL t u):∃ i,i < u.length∧c=cl t u i:=by
 rw [srtL,List.mem_mergeSort,clL,List.mem_map] at h
 obtain ⟨i,h1,h2⟩:=h
 exact ⟨i,List.mem_range.1 h1,h2.symm⟩
theorem srt_of {t:Int} {u:List Int} {d:Array Cl} (hp:PermIn 0 (clL t u).toArray.size (clL t u).toArray d) (hs:SortedIn tB 0 (clL t u).toArray.size d):d=(srtL t u).toArray:=by
 have h:=sorted_unique_holds swoT tB_total (clL t u).toArray d hp hs
 apply Array.toList_inj.1
 rw [h]
 simp [srtL]
def bump (g:List Int) (c:Cl):List Int:=g.set c.p.toNat (g.getD c.p.toNat 0+1)
theorem bump_len (g:List Int) (c:Cl):(bump g c).length=g.length:=by simp [bump]
def bumps (g:List Int) (s:List Cl) (k:Nat):List Int:=(s.take k).foldl bump g
theorem bumps_zero (g:List Int) (s:List Cl):bumps g s 0=g:=rfl
theorem bumps_succ {g:List Int} {s:List Cl} {k:Nat} (h:k < s.length):bumps g s (k+1)=bump (bumps g s k) s[k]:=by
 unfold bumps
 rw [List.take_add_one,List.foldl_append,List.getElem?_eq_getElem h]
 rfl
theorem bumps_len (g:List Int) (s:List Cl):∀ k,(bumps g s k).length=g.length:=by
 intro k
 unfold bumps
 induction s.take k generalizing g with
 | nil=>rfl
 | cons c r ih=>rw [List.foldl_cons,ih,bump_len]
theorem bump_get (g:List Int) (c:Cl) (i:Nat) (hi:i < g.length):(bump g c).getD i 0=if c.p.toNat=i then g.getD i 0+1 else g.getD i 0:=by
 unfold bump
 by_cases e:c.p.toNat=i
 ·subst e
  simp [List.getD,hi]
 ·simp [List.getD,List.getElem?_set_ne e,e]
theorem bumps_bound {g:List Int} {s:List Cl} {B:Int} (hg:∀ i,i < g.length→0≤g.getD i 0∧g.getD i 0≤B):∀ k,k≤s.length→∀ i,i < g.length→0≤(bumps g s k).getD i 0∧(bumps g s k).getD i 0≤B+k
 | 0,_,i,hi=>by have:=hg i hi;rw [bumps_zero];omega
 | k+1,hk,i,hi=>by
  have ih:=bumps_bound (s:=s) hg k (by omega) i hi
  rw [bumps_succ (show k < s.length by omega),bump_get _ _ _ (by rw [bumps_len];exact hi)]
  split <;> omega
def shareL (t:Int) (l:List Int):List Int:=if shrOkB t l=true∧l ≠ [] then bumps (baseL t (wts l)) (srtL t (wts l)) (leftN t (wts l)) else []
theorem shareL_none {t:Int} {l:List Int} (h:¬ (shrOkB t l=true∧l ≠ [])):shareL t l=[]:=by rw [shareL,if_neg h]
theorem shareL_some {t:Int} {l:List Int} (h1:shrOkB t l=true) (h2:l ≠ []):shareL t l=bumps (baseL t (wts l)) (srtL t (wts l)) (leftN t (wts l)):=by rw [shareL,if_pos ⟨h1,h2⟩]
theorem shareL_len {t:Int} {l:List Int} (h1:shrOkB t l=true):(shareL t l).length=l.length:=by
 by_cases h2:l=[]
 ·subst h2;rw [shareL_none (by simp)]
 ·rw [shareL_some h1 h2,bumps_len,baseL_len,wts_len]
theorem base_small {t:Int} {u:List Int} (h:shrOkB t u=true) (hs:0 < u.sum) {i:Nat} (hi:i < u.length):0≤(baseL t u).getD i 0∧(baseL t u).getD i 0≤100000:=by
 have h1:=base_sum h hs i (by omega)
 have h2:=base_sum h hs (i+1) (by omega)
 rw [sumTo_succ (by rw [baseL_len];exact hi)] at h2
 have h3:=dueTo_mono (t:=t) (u:=u) (i:=i+1) (j:=u.length) (by omega)
 have h4:=(dueTo_bounds h hs).1
 have h5:=(shrOk_parts h).1
 have h6:=dueTo_wide (t:=t) (l:=u) i
 have h7:0≤(baseL t u).getD i 0:=by
  rw [baseL_get hi]
  have hw:=(shrOk_parts h).2.2
  exact Int.ediv_nonneg (mul_small h5 (wt_get hw hi)).1 (by omega)
 exact ⟨h7,by omega⟩
theorem shareL_small {t:Int} {l:List Int} (i:Nat) (hi:i < (shareL t l).length):0≤(shareL t l).getD i 0∧(shareL t l).getD i 0≤100200:=by
 by_cases hc:shrOkB t l=true∧l ≠ []
 ·obtain ⟨h1,h2⟩:=hc
  have hw:=(shrOk_parts h1).2
  have h0:0 < l.length:=List.length_pos_iff.2 h2
  have hp:=wts_pos hw.2 h0
  have hl:=left_eq (shrOk_wts h1) hp
  rw [shareL_len h1] at hi
  rw [shareL_some h1 h2]
  have:=bumps_bound (B:=100000) (s:=srtL t (wts l)) (fun j hj=>base_small (shrOk_wts h1) hp (by rw [baseL_len] at hj;exact hj)) (leftN t (wts l)) (by rw [srtL_len];omega) i (by rw [baseL_len,wts_len];exact hi)
  rw [wts_len] at hl
  omega
 ·rw [shareL_none hc] at hi
  cases hi
def remL (t:Int) (u:List Int):List Int:=(clL t u).map (·.o)
theorem remL_len (t:Int) (u:List Int):(remL t u).length=u.length:=by simp [remL,clL_len]
theorem remL_get {t:Int} {u:List Int} {i:Nat} (h:i < u.length):(remL t u).getD i 0=t * u.getD i 0 % u.sum:=by
 rw [List.getD,remL,List.getElem?_map,clL_get h]
 rfl
theorem take_next {l:List Int} {k:Nat} (h:k < l.length):l.take (k+1)=l.take k ++ [l.getD k 0]:=by
 rw [List.take_add_one]
 simp [List.getD,h]
def NextP (lr:List Int) (bl:List Bool) (m:Nat) (k:Int):Prop :=
 (k=-1∧∀ i,i < m→bl.getD i false=true)∨∃ j:Nat,k=j∧j < m∧bl.getD j false=false∧∀ i,i < m→bl.getD i false=false→lr.getD i 0 < lr.getD j 0∨(lr.getD i 0=lr.getD j 0∧j≤i)
theorem NextP.zero (lr:List Int) (bl:List Bool):NextP lr bl 0 (-1):=.inl ⟨rfl,fun _ h=>absurd h (Nat.not_lt_zero _)⟩
theorem NextP.got {lr:List Int} {bl:List Bool} {m:Nat} {k:Int} (h:NextP lr bl m k) (hb:bl.getD m false=true):NextP lr bl (m+1) k:=by
 rcases h with ⟨h1,h2⟩ | ⟨j,h1,h2,h3,h4⟩
 ·refine .inl ⟨h1,fun i hi=>?_⟩
  rcases Nat.lt_or_eq_of_le (Nat.lt_succ_iff.1 hi) with h | rfl
  ·exact h2 i h
  ·exact hb
 ·refine .inr ⟨j,h1,by omega,h3,fun i hi hn=>?_⟩
  rcases Nat.lt_or_eq_of_le (Nat.lt_succ_iff.1 hi) with h | rfl
  ·exact h4 i h hn
  ·rw [hb] at hn;cases hn
theorem NextP.first {lr:List Int} {bl:List Bool} {m:Nat} (h:∀ i,i < m→bl.getD i false=true) (hb:bl.getD m false=false):NextP lr bl (m+1) m:=by
 refine .inr ⟨m,rfl,Nat.lt_succ_self _,hb,fun i hi hn=>?_⟩
 rcases Nat.lt_or_eq_of_le (Nat.lt_succ_iff.1 hi) with h1 | rfl
 ·rw [h i h1] at hn;cases hn
 ·exact .inr ⟨rfl,Nat.le_refl _⟩
theorem NextP.more {lr:List Int} {bl:List Bool} {m j:Nat} (h4:∀ i,i < m→bl.getD i false=false→lr.getD i 0 < lr.getD j 0∨(lr.getD i 0=lr.getD j 0∧j≤i)) (hb:bl.getD m false=false) (hm:lr.getD j 0 < lr.getD m 0):NextP lr bl (m+1) m:=by
 refine .inr ⟨m,rfl,Nat.lt_succ_self _,hb,fun i hi hn=>?_⟩
 rcases Nat.lt_or_eq_of_le (Nat.lt_succ_iff.1 hi) with h1 | rfl
 ·have:=h4 i h1 hn;left;omega
 ·exact .inr ⟨rfl,Nat.le_refl _⟩
theorem NextP.less {lr:List Int} {bl:List Bool} {m j:Nat} (hj:j < m) (h3:bl.getD j false=false) (h4:∀ i,i < m→bl.getD i false=false→lr.getD i 0 < lr.getD j 0∨(lr.getD i 0=lr.getD j 0∧j≤i)) (hm:¬ lr.getD j 0 < lr.getD m 0):NextP lr bl (m+1) j:=by
 refine .inr ⟨j,rfl,by omega,h3,fun i hi hn=>?_⟩
 rcases Nat.lt_or_eq_of_le (Nat.lt_succ_iff.1 hi) with h1 | rfl
 ·exact h4 i h1 hn
 ·omega
theorem srt_sorted (t:Int) (u:List Int):(srtL t u).Pairwise (fun x y=>tB y x=false):=by
 have:=List.pairwise_mergeSort (le:=fun x y:Cl=>!tB y x) (fun a b c h1 h2=>by
   simp only [Bool.not_eq_true'] at h1 h2 ⊢
   exact swoT.ntrans c b a h2 h1) (fun a b=>by
   cases h:tB b a with
   | false=>simp
   | true=>simp [tB_asymm h]) (clL t u)
 exact this.imp (fun h=>by simpa using h)
theorem cl_place (t:Int) (u:List Int) (i:Nat):(cl t u i).p=i:=rfl
theorem srt_nodup (t:Int) (u:List Int):(srtL t u).Nodup:=by
 rw [srtL,(List.mergeSort_perm _ _).nodup_iff,clL]
 refine List.Pairwise.map _ (fun a b (h:a ≠ b) e=>h ?_) List.nodup_range
 have:=congrArg Cl.p e
 rw [cl_place,cl_place] at this
 omega
theorem srt_mem {t:Int} {u:List Int} {i:Nat} (h:i < u.length):cl t u i ∈ srtL t u:=by
 rw [srtL,List.mem_mergeSort,clL]
 exact List.mem_map.2 ⟨i,List.mem_range.2 h,rfl⟩
def GotP (t:Int) (u:List Int) (bl:List Bool) (j:Nat):Prop:=∀ i,i < u.length→(bl.getD i false=true ↔ cl t u i ∈ (srtL t u).take j)
theorem got_zero (t:Int) (u:List Int) (n:Nat):GotP t u (List.replicate n false) 0:=fun i _=>by
 simp only [List.take_zero,List.not_mem_nil,iff_false]
 by_cases h:i < n <;> simp [List.getD,h]
theorem next_is {t:Int} {u:List Int} {bl:List Bool} {j:Nat} {k:Int} (hj:j < (srtL t u).length) (hg:GotP t u bl j) (hn:NextP (remL t u) bl u.length k):∃ i,i < u.length∧(srtL t u)[j]=cl t u i∧k=i∧bl.getD i false=false:=by
 obtain ⟨i,hi,he⟩:=srtL_mem (List.getElem_mem hj)
 have hno:bl.getD i false=false:=by
  cases hb:bl.getD i false with
  | false=>rfl
  | true =>
   exfalso
   have hm:=(hg i hi).1 hb
   rw [← he] at hm
   obtain ⟨q,hq,hqe⟩:=List.getElem_of_mem hm
   rw [List.length_take] at hq
   rw [List.getElem_take] at hqe
   exact List.pairwise_iff_getElem.1 (srt_nodup t u) q j (by omega) hj (by omega) hqe
 refine ⟨i,hi,he,?_,hno⟩
 rcases hn with ⟨_,h2⟩ | ⟨j',h1,h2,h3,h4⟩
 ·rw [h2 i hi] at hno;cases hno
 ·have hx:=h4 i hi hno
  have hm':cl t u j' ∈ (srtL t u).drop j:=by
   have:=srt_mem (t:=t) h2
   rw [← List.take_append_drop j (srtL t u),List.mem_append] at this
   rcases this with h | h
   ·exfalso
    rw [(hg j' h2).2 h] at h3
    cases h3
   ·exact h
  have hle:tB (cl t u j') (cl t u i)=false:=by
   rw [List.drop_eq_getElem_cons hj,List.mem_cons] at hm'
   rcases hm' with h | h
   ·rw [h,he];exact swoT.irrefl _
   ·have hp:=List.pairwise_iff_getElem.1 (srt_sorted t u)
    obtain ⟨q,hq,hqe⟩:=List.getElem_of_mem h
    rw [List.length_drop] at hq
    rw [List.getElem_drop] at hqe
    have:=hp j (j+1+q) hj (by omega) (by omega)
    rw [hqe,he] at this
    exact this
  rw [tB_not] at hle
  rw [remL_get hi,remL_get h2] at hx
  simp only [cl] at hle
  rw [h1]
  omega
theorem got_next {t:Int} {u:List Int} {bl:List Bool} {j i:Nat} (hl:bl.length=u.length) (hj:j < (srtL t u).length) (hg:GotP t u bl j) (he:(srtL t u)[j]=cl t u i):GotP t u (bl.set i true) (j+1):=by
 intro q hq
 rw [List.take_add_one,List.mem_append,List.getElem?_eq_getElem hj,he]
 by_cases e:i=q
 ·subst e
  simp [List.getD,hl,hq]
 ·have h1:(bl.set i true).getD q false=bl.getD q false:=by simp [List.getD,List.getElem?_set_ne e]
  rw [h1,hg q hq]
  simp only [Option.toList_some,List.mem_singleton]
  constructor
  ·exact Or.inl
  ·rintro (h | h)
   ·exact h
   ·exfalso
    have:=congrArg Cl.p h
    rw [cl_place,cl_place] at this
    omega
instance:DecidableEq Cl:=fun a b=>decidable_of_iff (a.p=b.p∧a.w=b.w∧a.o=b.o) (by cases a;cases b;simp)
theorem perm_sum {a b:List Int} (h:a.Perm b):a.sum=b.sum:=by
 induction h with
 | nil=>rfl
 | cons x _ ih=>rw [List.sum_cons,List.sum_cons,ih]
 | swap x y l=>simp only [List.sum_cons];omega
 | trans _ _ h1 h2=>exact h1.trans h2
theorem sum_set {l:List Int}:∀ {i:Nat},i < l.length→∀ x,(l.set i x).sum=l.sum - l.getD i 0+x:=by
 induction l with
 | nil=>intro i hi;cases hi
 | cons y r ih =>
  intro i hi x
  cases i with
  | zero=>simp [List.getD];omega
  | succ k =>
   have:=ih (i:=k) (by simpa using hi) x
   simp only [List.set_cons_succ,List.sum_cons,this]
   simp [List.getD]
   omega
theorem bump_sum {g:List Int} {c:Cl} (h:c.p.toNat < g.length):(bump g c).sum=g.sum+1:=by
 rw [bump,sum_set h]
 omega
theorem bumps_sum {t:Int} {u:List Int} {g:List Int} (hg:g.length=u.length):∀ k,k≤(srtL t u).length→(bumps g (srtL t u) k).sum=g.sum+k
 | 0,_=>by rw [bumps_zero];omega
 | k+1,hk=>by
  have hlt:k < (srtL t u).length:=by omega
  obtain ⟨i,hi,he⟩:=srtL_mem (List.getElem_mem hlt)
  rw [bumps_succ hlt,bump_sum (by rw [he,cl_place,bumps_len,hg];simpa using hi),bumps_sum hg k (by omega)]
  omega
theorem bumps_get {t:Int} {u:List Int} {g:List Int} (hg:g.length=u.length) {i:Nat} (hi:i < u.length):∀ k,k≤(srtL t u).length→(bumps g (srtL t u) k).getD i 0=g.getD i 0+if cl t u i ∈ (srtL t u).take k then 1 else 0
 | 0,_=>by rw [bumps_zero];simp
 | k+1,hk=>by
  have hlt:k < (srtL t u).length:=by omega
  obtain ⟨j,hj,he⟩:=srtL_mem (List.getElem_mem hlt)
  rw [bumps_succ hlt,bump_get _ _ _ (by rw [bumps_len,hg];exact hi),bumps_get hg hi k (by omega),he,cl_place,List.take_add_one,List.getElem?_eq_getElem hlt,he]
  have hno:cl t u j ∉ (srtL t u).take k:=fun hm=>by
   obtain ⟨q,hq,hqe⟩:=List.getElem_of_mem hm
   rw [List.length_take] at hq
   rw [List.getElem_take] at hqe
   exact List.pairwise_iff_getElem.1 (srt_nodup t u) q k (by omega) hlt (by omega) (by rw [hqe,he])
  by_cases e:j=i
  ·subst e
   simp [hno]
  ·have e2:cl t u i ≠ cl t u j:=fun h=>e (by have:=congrArg Cl.p h;rw [cl_place,cl_place] at this;omega)
   simp [e,e2]
theorem share_get {t:Int} {l:List Int} (h1:shrOkB t l=true) {i:Nat} (hi:i < l.length) :
  (shareL t l).getD i 0=t * (wts l).getD i 0 / (wts l).sum+if cl t (wts l) i ∈ (srtL t (wts l)).take (leftN t (wts l)) then 1 else 0:=by
 have h0:0 < l.length:=by omega
 have hw:=(shrOk_parts h1).2
 have hp:=wts_pos hw.2 h0
 have hl:=left_eq (shrOk_wts h1) hp
 have hu:i < (wts l).length:=by rw [wts_len];exact hi
 rw [shareL_some h1 (List.length_pos_iff.1 h0),bumps_get (baseL_len _ _) hu _ (by rw [srtL_len];omega),baseL_get hu]
theorem share_sum {t:Int} {l:List Int} (h1:shrOkB t l=true) (h0:0 < l.length):(shareL t l).sum=t:=by
 have hw:=(shrOk_parts h1).2
 have hp:=wts_pos hw.2 h0
 have hk:=shrOk_wts h1
 have hl:=left_eq hk hp
 rw [shareL_some h1 (List.length_pos_iff.1 h0),bumps_sum (baseL_len _ _) _ (by rw [srtL_len];omega)]
 have:=base_sum hk hp (wts l).length (Nat.le_refl _)
 rw [← baseL_len t (wts l),sumTo_all,baseL_len] at this
 omega
theorem ahead_got {t:Int} {u:List Int} {i k j:Nat} (hi:i < u.length) (h:tB (cl t u i) (cl t u k)=true) (hk:cl t u k ∈ (srtL t u).take j):cl t u i ∈ (srtL t u).take j:=by
 have hm:=srt_mem (t:=t) hi
 rw [← List.take_append_drop j (srtL t u),List.mem_append] at hm
 rcases hm with hm | hm
 ·exact hm
 ·exfalso
  obtain ⟨q,hq,hqe⟩:=List.getElem_of_mem hk
  obtain ⟨p,hp,hpe⟩:=List.getElem_of_mem hm
  rw [List.length_take] at hq
  rw [List.getElem_take] at hqe
  rw [List.length_drop] at hp
  rw [List.getElem_drop] at hpe
  have:=List.pairwise_iff_getElem.1 (srt_sorted t u) q (j+p) (by omega) (by omega) (by omega)
  rw [hqe,hpe,h] at this
  cases this
theorem sum_map_o {t:Int} {u:List Int}:((srtL t u).map (·.o)).sum=(remL t u).sum:=by
 rw [srtL,remL]
 exact perm_sum ((List.mergeSort_perm (clL t u) _).map _)
theorem rem_sum {t:Int} {u:List Int} (h:shrOkB t u=true) (hs:0 < u.sum):∀ k,k≤u.length→sumTo (remL t u) k=t * sumTo u k - u.sum * dueTo t u k
 | 0,_=>by simp [sumTo,dueTo]
 | k+1,hk=>by
  have hlt:k < u.length:=by omega
  have m1:=Int.mul_ediv_add_emod (t * u.getD k 0) u.sum
  rw [sumTo_succ (by rw [remL_len];exact hlt),rem_sum h hs k (by omega),remL_get hlt,sumTo_succ hlt,dueTo,due_yes h (inB_nat hlt) (by omega),Int.toNat_natCast,Int.mul_add,Int.mul_add]
  omega
theorem sum_le_of {L:List Int} {B:Int} (h:∀ x ∈ L,x≤B):L.sum≤L.length * B:=by
 induction L with
 | nil=>simp
 | cons y r ih =>
  have h1:=ih (fun x hx=>h x (List.mem_cons_of_mem _ hx))
  have h2:=h y List.mem_cons_self
  rw [List.sum_cons,List.length_cons,Int.natCast_add,Int.add_mul]
  simp only [Int.natCast_one,Int.one_mul]
  omega
theorem rem_range {t:Int} {u:List Int} (hs:0 < u.sum) (i:Nat):0≤(cl t u i).o∧(cl t u i).o < u.sum:=⟨Int.emod_nonneg _ (by omega),Int.emod_lt_of_pos _ hs⟩
theorem none_of_zero {t:Int} {u:List Int} (h:shrOkB t u=true) (hs:0 < u.sum) {i:Nat} (ho:(cl t u i).o=0):cl t u i ∉ (srtL t u).take (leftN t u):=by
 intro hm
 obtain ⟨q,hq,hqe⟩:=List.getElem_of_mem hm
 rw [List.length_take] at hq
 rw [List.getElem_take] at hqe
 have hlf:=left_eq h hs
 have hall:(srtL t u).map (·.o)=((srtL t u).take q).map (·.o) ++ ((srtL t u).drop q).map (·.o):=by rw [← List.map_append,List.take_append_drop]
 have hsum:((srtL t u).map (·.o)).sum=u.sum * leftN t u:=by
  rw [sum_map_o]
  have:=rem_sum h hs u.length (Nat.le_refl _)
  rw [← remL_len t u,sumTo_all,remL_len,sumTo_all] at this
  rw [this,hlf.1,Int.mul_sub,Int.mul_comm t]
 have h1:(((srtL t u).take q).map (·.o)).sum≤(((srtL t u).take q).map (·.o)).length * (u.sum - 1):=sum_le_of (fun x hx=>by
  obtain ⟨c,hc,rfl⟩:=List.mem_map.1 hx
  obtain ⟨j,_,rfl⟩:=srtL_mem (List.mem_of_mem_take hc)
  have:=(rem_range (t:=t) hs j).2
  omega)
 have h2:(((srtL t u).drop q).map (·.o)).sum≤(((srtL t u).drop q).map (·.o)).length * 0:=sum_le_of (fun x hx=>by
  obtain ⟨c,hc,rfl⟩:=List.mem_map.1 hx
  obtain ⟨p,hp,hpe⟩:=List.getElem_of_mem hc
  rw [List.length_drop] at hp
  rw [List.getElem_drop] at hpe
  have hle:tB (srtL t u)[q+p] (srtL t u)[q]=false:=by
   rcases Nat.eq_zero_or_pos p with rfl | hpp
   ·exact swoT.irrefl _
   ·exact List.pairwise_iff_getElem.1 (srt_sorted t u) q (q+p) (by omega) (by omega) (by omega)
  rw [hqe,hpe,tB_not] at hle
  omega)
 rw [hall,List.sum_append] at hsum
 simp only [List.length_map,List.length_take] at h1
 rw [Nat.min_eq_left (by omega)] at h1
 have h3:(q:Int) * (u.sum - 1) < u.sum * leftN t u:=by
  have e1:(q:Int) * (u.sum - 1)≤(q:Int) * u.sum:=Int.mul_le_mul_of_nonneg_left (by omega) (by omega)
  have e2:(q:Int) * u.sum < (leftN t u:Int) * u.sum:=Int.mul_lt_mul_of_pos_right (by omega) hs
  rw [Int.mul_comm u.sum]
  omega
 omega
theorem share_zero {t:Int} {l:List Int} (h1:shrOkB t l=true) (hs:l.sum ≠ 0) {i:Nat} (hi:i < l.length) (hz:l.getD i 0=0):(shareL t l).getD i 0=0:=by
 have hu:wts l=l:=by rw [wts,if_neg hs]
 have hp:=wts_pos (shrOk_parts h1).2.2 (show 0 < l.length by omega)
 rw [hu] at hp
 have:=none_of_zero (t:=t) h1 hp (i:=i) (by show t * l.getD i 0 % l.sum=0;rw [hz];simp)
 rw [share_get h1 hi,hu,if_neg this,hz]
 simp
theorem share_due {t:Int} {l:List Int} (h1:shrOkB t l=true) (hs:l.sum ≠ 0) {i:Nat} (hi:i < l.length):(shareL t l).getD i 0=dueV t l i∨(shareL t l).getD i 0=dueV t l i+1:=by
 have hu:wts l=l:=by rw [wts,if_neg hs]
 rw [share_get h1 hi,hu,due_yes h1 (inB_nat hi) hs,Int.toNat_natCast]
 split <;> omega
theorem share_upto {t:Int} {l:List Int} (h1:shrOkB t l=true) (hs:t < l.sum) {i:Nat} (hi:i < l.length):0≤(shareL t l).getD i 0∧(shareL t l).getD i 0≤l.getD i 0:=by
 obtain ⟨ht,_,hw⟩:=shrOk_parts h1
 have hwi:=wt_get hw hi
 have hsm:=shareL_small (t:=t) (l:=l) i (by rw [shareL_len h1];exact hi)
 refine ⟨hsm.1,?_⟩
 by_cases hz:l.getD i 0=0
 ·rw [share_zero h1 (by omega) hi hz];omega
 ·have hlt:t * l.getD i 0 / l.sum < l.getD i 0:=by
   apply Int.ediv_lt_of_lt_mul (by omega)
   rw [Int.mul_comm (l.getD i 0)]
   exact Int.mul_lt_mul_of_pos_right hs (by omega)
  rcases share_due h1 (show l.sum ≠ 0 by omega) hi with h | h
  ·rw [h,due_yes h1 (inB_nat hi) (by omega),Int.toNat_natCast];omega
  ·rw [h,due_yes h1 (inB_nat hi) (by omega),Int.toNat_natCast];omega
end Go.Proofs.YtggmjiddadjilaeGreat
namespace Go.Proofs.YtggmjiddadjilaeGreat
open Go.RowKit
theorem W_eq (n:Int):wrap64 n=(n+9223372036854775808) % 18446744073709551616 - 9223372036854775808:=by unfold wrap64;rfl
theorem W_addl (a b:Int):wrap64 (wrap64 a+b)=wrap64 (a+b):=by simp only [W_eq];omega
theorem W_addr (a b:Int):wrap64 (a+wrap64 b)=wrap64 (a+b):=by simp only [W_eq];omega
theorem W_small {a:Int} (h:-9223372036854775808≤a∧a≤9223372036854775807):wrap64 a=a:=by rw [W_eq];omega
theorem W_bounds (a:Int):-9223372036854775808≤wrap64 a∧wrap64 a≤9223372036854775807:=by rw [W_eq];omega
def aheadN (l:List Int) (col:Int):Nat:=(min (max col 0) l.length).toNat
def atV (l:List Int) (gap col:Int):Int:=wrap64 (sumTo l (aheadN l col)+gap * (aheadN l col:Nat))
def endV (l:List Int) (gap col:Int):Int:=if inB col 0 (l.length - 1)=true then wrap64 (atV l gap col+l.getD col.toNat 0) else 0
def ownL (l:List Int) (p:Nat→Bool):Nat→List Int
 | 0=>[]
 | k+1=>if p k=true then ownL l p k ++ [l.getD k 0] else ownL l p k
theorem ownL_len (l:List Int) (p:Nat→Bool):∀ k,(ownL l p k).length≤k
 | 0=>Nat.le_refl _
 | k+1=>by
  have:=ownL_len l p k
  unfold ownL
  split
  ·rw [List.length_append,List.length_singleton];omega
  ·omega
def acrV (xs:List Int) (gap:Int):Int:=if xs.length=0 then 0 else wrap64 (xs.sum+gap * ((xs.length:Int) - 1))
theorem acrV_nil {xs:List Int} (h:xs.length=0) (gap:Int):acrV xs gap=0:=by unfold acrV;rw [if_pos h]
theorem acrV_cons {xs:List Int} (h:xs.length ≠ 0) (gap:Int):acrV xs gap=wrap64 (xs.sum+gap * ((xs.length:Int) - 1)):=by unfold acrV;rw [if_neg h]
theorem IntsAt.take {w:World} {a:Option Addr} {n cap:Nat} {l:List Int} (h:IntsAt w (.slice a n cap) l) {m:Nat} (hm:m≤l.length):IntsAt w (.slice a m cap) (l.take m):=by
 obtain ⟨a',cap',hv,h1,h2,h3⟩:=h
 simp only [Value.slice.injEq] at hv
 obtain ⟨rfl,rfl,rfl⟩:=hv
 have hl:(l.take m).length=m:=by rw [List.length_take];omega
 refine ⟨a,cap,by rw [hl],by omega,h2,fun i hi=>?_⟩
 rw [hl] at hi
 obtain ⟨b,off,h4,h5,h6⟩:=h3 i (by omega)
 refine ⟨b,off,h4,h5,?_⟩
 rw [h6]
 simp [List.getD,hi]
def subL (l:List Int) (c m:Nat):List Int:=(l.drop c).take m
theorem subL_len {l:List Int} {c m:Nat} (h:c+m≤l.length):(subL l c m).length=m:=by unfold subL;rw [List.length_take,List.length_drop];omega
theorem subL_get {l:List Int} {c m k:Nat} (_:c+m≤l.length) (hk:k < m):(subL l c m).getD k 0=l.getD (c+k) 0:=by
 unfold subL
 simp [List.getD,List.getElem?_take_of_lt hk,List.getElem?_drop]
theorem subL_mem {l:List Int} {c m:Nat} {x:Int} (h:x ∈ subL l c m):x ∈ l:=List.mem_of_mem_drop (List.mem_of_mem_take h)
def addTo (l:List Int) (c:Nat) (more:List Int):Nat→List Int
 | 0=>l
 | k+1=>(addTo l c more k).set (c+k) (l.getD (c+k) 0+more.getD k 0)
theorem addTo_len (l:List Int) (c:Nat) (more:List Int):∀ k,(addTo l c more k).length=l.length
 | 0=>rfl
 | k+1=>by rw [addTo,List.length_set,addTo_len l c more k]
theorem addTo_out (l:List Int) (c:Nat) (more:List Int) {i:Nat}:∀ k,(∀ j,j < k→c+j ≠ i)→(addTo l c more k).getD i 0=l.getD i 0
 | 0,_=>rfl
 | k+1,h=>by
  rw [addTo]
  simp only [List.getD,List.getElem?_set_ne (h k (by omega))]
  exact addTo_out l c more k (fun j hj=>h j (by omega))
theorem addTo_in (l:List Int) (c:Nat) (more:List Int) {j:Nat}:∀ k,j < k→c+k≤l.length→(addTo l c more k).getD (c+j) 0=l.getD (c+j) 0+more.getD j 0
 | k+1,h,hl=>by
  rw [addTo]
  by_cases e:j=k
  ·subst e
   have:c+j < (addTo l c more j).length:=by rw [addTo_len];omega
   simp [List.getD,this]
  ·have:=addTo_in l c more (j:=j) k (by omega) (by omega)
   simp only [List.getD,List.getElem?_set_ne (show c+k ≠ c+j by omega)]
   exact this
def lackV (l:List Int) (c m:Nat) (gap need:Int):Int:=need - ((subL l c m).sum+gap * ((m:Int) - 1))
def wideL (l:List Int) (c m:Nat) (gap need:Int):List Int:=if lackV l c m gap need≤0 then l else addTo l c (shareL (lackV l c m gap need) (subL l c m)) m
theorem wideL_len (l:List Int) (c m:Nat) (gap need:Int):(wideL l c m gap need).length=l.length:=by unfold wideL;split;rfl;exact addTo_len _ _ _ _
def UpB (l:List Int) (B:Int):Prop:=∀ i,i < l.length→0≤l.getD i 0∧l.getD i 0≤B
theorem UpB.mem {l:List Int} {B:Int} (h:UpB l B) {x:Int} (hx:x ∈ l):0≤x∧x≤B:=by
 obtain ⟨i,hi,rfl⟩:=List.mem_iff_getElem.1 hx
 have:=h i hi
 simpa [List.getD,hi] using this
theorem sum_upB:∀ {l:List Int} {B:Int},(∀ x ∈ l,0≤x∧x≤B)→0≤l.sum∧l.sum≤l.length * B
 | [],_,_=>by simp
 | a :: l,B,h=>by
  have h1:=h a (by simp)
  have h2:=sum_upB (l:=l) (B:=B) (fun x hx=>h x (by simp [hx]))
  rw [List.sum_cons,List.length_cons,show ((l.length+1:Nat):Int) * B=l.length * B+B by rw [show ((l.length+1:Nat):Int)=(l.length:Int)+1 by omega,Int.add_mul,Int.one_mul]]
  omega
theorem mem_le_sum:∀ {l:List Int} {x:Int},(∀ y ∈ l,0≤y)→x ∈ l→x≤l.sum
 | a :: l,x,h,hx=>by
  have h1:=h a (by simp)
  rw [List.sum_cons]
  rcases List.mem_cons.1 hx with rfl | hx
  ·have:0≤l.sum:=by
    clear hx h1
    induction l with
    | nil=>simp
    | cons b l ih =>
     have hb:=h b (by simp)
     have:=ih (fun y hy=>h y (by rcases List.mem_cons.1 hy with rfl | hy;exact List.mem_cons_self;exact List.mem_cons_of_mem _ (List.mem_cons_of_mem _ hy)))
     rw [List.sum_cons];omega
   omega
  ·have:=mem_le_sum (fun y hy=>h y (List.mem_cons_of_mem _ hy)) hx
   omega
theorem lack_ok {l:List Int} {c m:Nat} {gap need:Int} (hb:UpB l 50000) (hc:c+m≤l.length) (hm:1≤m∧m≤4) (hg:0≤gap∧gap≤3) (hn:need≤30) (hl:0 < lackV l c m gap need) :
  shrOkB (lackV l c m gap need) (subL l c m)=true∧lackV l c m gap need≤30:=by
 have hs:=(sum_upB (fun x (hx:x ∈ subL l c m)=>hb.mem (subL_mem hx))).1
 have hgm:0≤gap * ((m:Int) - 1):=Int.mul_nonneg hg.1 (by omega)
 have h30:lackV l c m gap need≤30:=by unfold lackV;omega
 refine ⟨?_,h30⟩
 simp only [shrOkB,wtB,Bool.and_eq_true,decide_eq_true_eq,List.all_eq_true]
 refine ⟨⟨by omega,by rw [subL_len hc];omega⟩,fun x hx=>?_⟩
 have:=hb.mem (subL_mem hx)
 omega
theorem wideL_upB {l:List Int} {B:Int} {c m:Nat} {gap need:Int} (hb:UpB l B) (hB:B+30≤50000) (hc:c+m≤l.length) (hm:1≤m∧m≤4) (hg:0≤gap∧gap≤3) (hn:need≤30):UpB (wideL l c m gap need) (B+30):=by
 intro i hi
 rw [wideL_len] at hi
 have hbi:=hb i hi
 unfold wideL
 split
 ·omega
 ·rename_i hl
  obtain ⟨hok,h30⟩:=lack_ok (fun j hj=>⟨(hb j hj).1,by have:=(hb j hj).2;omega⟩) hc hm hg hn (by omega:0 < lackV l c m gap need)
  have hsl:=shareL_len hok
  rw [subL_len hc] at hsl
  by_cases hin:c≤i∧i < c+m
  ·obtain ⟨j,rfl⟩:∃ j,i=c+j:=⟨i - c,by omega⟩
   rw [addTo_in l c _ m (by omega) (by omega)]
   have h1:=shareL_small (t:=lackV l c m gap need) (l:=subL l c m) j (by omega)
   have h2:(shareL (lackV l c m gap need) (subL l c m)).getD j 0≤30:=by
    have hsum:=share_sum hok (by rw [subL_len hc];omega)
    have hall:∀ x ∈ shareL (lackV l c m gap need) (subL l c m),0≤x:=fun x hx=>by
     obtain ⟨k,hk,rfl⟩:=List.mem_iff_getElem.1 hx
     have:=(shareL_small (t:=lackV l c m gap need) (l:=subL l c m) k hk).1
     simpa [List.getD,hk] using this
    have hle:(shareL (lackV l c m gap need) (subL l c m)).getD j 0≤(shareL (lackV l c m gap need) (subL l c m)).sum:=by
     have hmem:(shareL (lackV l c m gap need) (subL l c m)).getD j 0 ∈ shareL (lackV l c m gap need) (subL l c m):=by
      have e:(shareL (lackV l c m gap need) (subL l c m)).getD j 0=(shareL (lackV l c m gap need) (subL l c m))[j]'(by omega):=by simp [List.getD,show j < (shareL (lackV l c m gap need) (subL l c m)).length by omega]
      rw [e];exact List.getElem_mem _
     exact mem_le_sum hall hmem
    omega
   omega
  ·rw [addTo_out l c _ m (fun j hj e=>hin ⟨by omega,by omega⟩)]
   omega
def cnTo (rs:List R) (k:Nat):Nat:=((rs.take k).map (fun x=>x.cells.length)).sum
def sd (ps:List (Int × Int)) (q:Int):Int × Int:=if inB q 0 (ps.length - 1)=true then ps.getD q.toNat (0,0) else (0,0)
theorem sd_no {ps:List (Int × Int)} {q:Int} (h:inB q 0 (ps.length - 1)=false):sd ps q=(0,0):=by unfold sd;rw [if_neg (by rw [h];simp)]
theorem sd_yes {ps:List (Int × Int)} {k:Nat} (h:k < ps.length):sd ps k=ps.getD k (0,0):=by unfold sd;rw [if_pos (inB_true (by omega) (by omega)),Int.toNat_natCast]
def sdT (t:T) (q:Int):Int × Int:=if tblB t=true then sd t.cols q else (0,0)
def wishOf (s:ByteArray):Nat:=if txtOkB s=true then s.size else 0
theorem wishOf_le (s:ByteArray):wishOf s≤30:=by
 unfold wishOf
 split
 ·rename_i h
  exact ((txtOkB_iff s).1 h).1
 ·omega
def selN (P:Nat→Bool) (n:Nat):List Nat:=(List.range n).filter P
def selL (l:List Int) (P:Nat→Bool) (n:Nat):List Int:=(selN P n).map (fun i=>l.getD i 0)
theorem selL_len (l:List Int) (P:Nat→Bool) (n:Nat):(selL l P n).length=(selN P n).length:=by simp [selL]
theorem selN_succ (P:Nat→Bool) (n:Nat):selN P (n+1)=selN P n ++ if P n=true then [n] else []:=by
 unfold selN
 rw [List.range_succ,List.filter_append]
 congr 1
 by_cases h:P n=true
 ·simp [h]
 ·simp [h]
theorem selN_get {P:Nat→Bool} {n p:Nat} (h:p < (selN P n).length):(selN P n)[p] < n∧P (selN P n)[p]=true:=by
 have:=List.getElem_mem h
 unfold selN at this
 rw [List.mem_filter,List.mem_range] at this
 exact this
theorem selN_mono {P:Nat→Bool} {n p q:Nat} (hp:p < (selN P n).length) (hq:q < (selN P n).length) (h:p < q):(selN P n)[p] < (selN P n)[q] :=
 List.pairwise_iff_getElem.1 (List.Pairwise.filter P List.pairwise_lt_range) p q hp hq h
theorem selL_get {l:List Int} {P:Nat→Bool} {n p:Nat} (h:p < (selN P n).length):(selL l P n).getD p 0=l.getD (selN P n)[p] 0:=by
 simp [selL,List.getD,h]
theorem selL_sum {l:List Int} {P:Nat→Bool}:∀ n,n≤l.length→(∀ i,i < n→P i=false→l.getD i 0=0)→(selL l P n).sum=sumTo l n
 | 0,_,_=>by simp [selL,selN,sumTo]
 | n+1,hn,hz=>by
  have ih:=selL_sum n (by omega) (fun i hi=>hz i (by omega))
  have e:selL l P (n+1)=selL l P n ++ if P n=true then [l.getD n 0] else []:=by
   unfold selL
   rw [selN_succ,List.map_append]
   congr 1
   split <;> rfl
  rw [e,List.sum_append,ih,sumTo_succ (by omega)]
  cases hP:P n with
  | true=>simp
  | false=>rw [hz n (by omega) hP];simp
theorem sum_lt:∀ {a b:List Int},a.length=b.length→(∀ i,i < a.length→a.getD i 0≤b.getD i 0)→∀ p,p < a.length→a.getD p 0 < b.getD p 0→a.sum < b.sum
 | [],_,_,_,p,hp,_=>absurd hp (Nat.not_lt_zero _)
 | _ :: _,[],h,_,_,_,_=>absurd h (by simp)
 | x :: a,y :: b,h,hle,p,hp,hlt=>by
  have hab:a.length=b.length:=by simpa using h
  have h0:x≤y:=by have:=hle 0 (by simp);simpa using this
  have hr:∀ i,i < a.length→a.getD i 0≤b.getD i 0:=fun i hi=>by have:=hle (i+1) (by simpa using hi);simpa using this
  rw [List.sum_cons,List.sum_cons]
  cases p with
  | zero =>
   have h1:x < y:=by simpa using hlt
   have h2:a.sum≤b.sum:=by
    clear hlt hp hle h h0 h1
    induction a generalizing b with
    | nil=>cases b with
     | nil=>exact Int.le_refl _
     | cons _ _=>simp at hab
    | cons u a ih=>cases b with
     | nil=>simp at hab
     | cons v b =>
      have h3:u≤v:=by have:=hr 0 (by simp);simpa using this
      have:=ih (b:=b) (by simpa using hab) (fun i hi=>by have:=hr (i+1) (by simpa using hi);simpa using this)
      rw [List.sum_cons,List.sum_cons]
      omega
   omega
  | succ p =>
   have:=sum_lt hab hr p (by simpa using hp) (by simpa using hlt)
   omega
theorem other_way {a b:List Int} (hl:a.length=b.length) (hs:a.sum=b.sum) {p:Nat} (hp:p < a.length) (h:a.getD p 0 < b.getD p 0):∃ q,q < a.length∧b.getD q 0 < a.getD q 0:=by
 apply Classical.byContradiction
 intro hn
 have:=sum_lt hl (fun i hi=>Int.not_lt.1 (fun hlt=>hn ⟨i,hi,hlt⟩)) p hp h
 omega
theorem wts_some {l:List Int} (h:l.sum ≠ 0):wts l=l:=by unfold wts;rw [if_neg h]
theorem share_sel {t:Int} {l:List Int} {P:Nat→Bool} (hok:shrOkB t l=true) (hz:∀ i,i < l.length→P i=false→l.getD i 0=0) (hs:l.sum ≠ 0) :
  shrOkB t (selL l P l.length)=true∧shareL t (selL l P l.length)=selL (shareL t l) P l.length:=by
 obtain ⟨ht,hlen,hw⟩:=shrOk_parts hok
 have hsum:(selL l P l.length).sum=l.sum:=by rw [selL_sum l.length (Nat.le_refl _) hz,sumTo_all]
 have hs':(selL l P l.length).sum ≠ 0:=by rw [hsum];exact hs
 have hnl:(selN P l.length).length≤l.length:=by unfold selN;have:=List.length_filter_le P (List.range l.length);simpa using this
 have hok':shrOkB t (selL l P l.length)=true:=by
  simp only [shrOkB,Bool.and_eq_true,decide_eq_true_eq,List.all_eq_true]
  refine ⟨⟨by simp only [wtB,decide_eq_true_eq];exact ht,by rw [selL_len];omega⟩,fun x hx=>?_⟩
  unfold selL at hx
  obtain ⟨i,hi,rfl⟩:=List.mem_map.1 hx
  unfold selN at hi
  have hil:=List.mem_range.1 (List.mem_filter.1 hi).1
  rw [show l.getD i 0=l[i] by simp [List.getD,hil]]
  exact List.all_eq_true.1 hw _ (List.getElem_mem hil)
 refine ⟨hok',?_⟩
 have hpos:0 < l.length:=by
  cases l with
  | nil=>simp at hs
  | cons _ _=>simp
 have hpos':0 < (selL l P l.length).length:=by
  cases h:selL l P l.length with
  | nil=>rw [h] at hs';simp at hs'
  | cons _ _=>simp
 have hL:=shareL_len hok
 have hL':=shareL_len hok'
 have hsh:(selL (shareL t l) P l.length).sum=(shareL t l).sum:=by
  have:=selL_sum (l:=shareL t l) (P:=P) l.length (by omega) (fun i hi hP=>share_zero hok hs hi (hz i hi hP))
  rw [this,← hL,sumTo_all]
 have hss:(shareL t (selL l P l.length)).sum=(selL (shareL t l) P l.length).sum:=by rw [hsh,share_sum hok hpos,share_sum hok' hpos']
 have hll:(shareL t (selL l P l.length)).length=(selL (shareL t l) P l.length).length:=by rw [hL',selL_len,selL_len]
 have hw1:=wts_some hs
 have hw2:=wts_some hs'
 -- the two orders are one
 have hord:∀ p q,(hp:p < (selN P l.length).length)→(hq:q < (selN P l.length).length)→tB (cl t (selL l P l.length) p) (cl t (selL l P l.length) q)=tB (cl t l (selN P l.length)[p]) (cl t l (selN P l.length)[q]):=by
  intro p q hp hq
  rw [Bool.eq_iff_iff,tB_iff,tB_iff]
  simp only [cl,hsum,selL_get hp,selL_get hq]
  have hm:((p:Int) < (q:Int)) ↔ (((selN P l.length)[p]:Nat):Int) < (((selN P l.length)[q]:Nat):Int):=by
   constructor
   ·intro h;have:=selN_mono hp hq (by omega);omega
   ·intro h
    rcases Nat.lt_trichotomy p q with h1 | h1 | h1
    ·omega
    ·subst h1;omega
    ·have:=selN_mono hq hp h1;omega
  have he:((p:Int)=(q:Int)) ↔ (((selN P l.length)[p]:Nat):Int)=(((selN P l.length)[q]:Nat):Int):=by
   constructor
   ·intro h;have:p=q:=by omega
    subst this;rfl
   ·intro h
    rcases Nat.lt_trichotomy p q with h1 | h1 | h1
    ·have:=selN_mono hp hq h1;omega
    ·omega
    ·have:=selN_mono hq hp h1;omega
  rw [hm,he]
 have hA:∀ p,(hp:p < (selN P l.length).length)→(shareL t (selL l P l.length)).getD p 0=t * l.getD (selN P l.length)[p] 0 / l.sum+if cl t (selL l P l.length) p ∈ (srtL t (selL l P l.length)).take (leftN t (selL l P l.length)) then 1 else 0:=by
  intro p hp
  rw [share_get hok' (by rw [selL_len];exact hp),hw2,hsum,selL_get hp]
 have hB:∀ p,(hp:p < (selN P l.length).length)→(selL (shareL t l) P l.length).getD p 0=t * l.getD (selN P l.length)[p] 0 / l.sum+if cl t l (selN P l.length)[p] ∈ (srtL t l).take (leftN t l) then 1 else 0:=by
  intro p hp
  rw [selL_get hp,share_get hok (selN_get hp).1,hw1]
 -- one that got more here and one that got more there cannot both be
 have hno:∀ p q,(hp:p < (selN P l.length).length)→(hq:q < (selN P l.length).length)→(shareL t (selL l P l.length)).getD p 0 < (selL (shareL t l) P l.length).getD p 0→(selL (shareL t l) P l.length).getD q 0 < (shareL t (selL l P l.length)).getD q 0→False:=by
  intro p q hp hq h1 h2
  rw [hA p hp,hB p hp] at h1
  rw [hA q hq,hB q hq] at h2
  have hpl:p < (selL l P l.length).length:=by rw [selL_len];exact hp
  have hql:q < (selL l P l.length).length:=by rw [selL_len];exact hq
  by_cases a1:cl t (selL l P l.length) p ∈ (srtL t (selL l P l.length)).take (leftN t (selL l P l.length))
  ·rw [if_pos a1] at h1;split at h1 <;> omega
  by_cases a2:cl t l (selN P l.length)[q] ∈ (srtL t l).take (leftN t l)
  ·rw [if_pos a2] at h2;split at h2 <;> omega
  by_cases b1:cl t l (selN P l.length)[p] ∈ (srtL t l).take (leftN t l)
  case neg=>rw [if_neg a1,if_neg b1] at h1;omega
  by_cases b2:cl t (selL l P l.length) q ∈ (srtL t (selL l P l.length)).take (leftN t (selL l P l.length))
  case neg=>rw [if_neg a2,if_neg b2] at h2;omega
  have hpq:p ≠ q:=fun e=>by subst e;exact a1 b2
  have htot:tB (cl t l (selN P l.length)[p]) (cl t l (selN P l.length)[q])=true∨tB (cl t l (selN P l.length)[q]) (cl t l (selN P l.length)[p])=true:=by
   rw [tB_iff,tB_iff]
   simp only [cl]
   have:(selN P l.length)[p] ≠ (selN P l.length)[q]:=by
    rcases Nat.lt_or_gt_of_ne hpq with h | h
    ·have:=selN_mono hp hq h;omega
    ·have:=selN_mono hq hp h;omega
   omega
  rcases htot with h | h
  ·rw [← hord p q hp hq] at h
   exact a1 (ahead_got hpl h b2)
  ·exact a2 (ahead_got (selN_get hq).1 h b1)
 apply List.ext_getElem hll
 intro p h1 h2
 have hp:p < (selN P l.length).length:=by rw [hL',selL_len] at h1;exact h1
 have e1:(shareL t (selL l P l.length))[p]=(shareL t (selL l P l.length)).getD p 0:=by simp [List.getD,h1]
 have e2:(selL (shareL t l) P l.length)[p]=(selL (shareL t l) P l.length).getD p 0:=by simp [List.getD,h2]
 rw [e1,e2]
 apply Classical.byContradiction
 intro hne
 rcases Int.lt_or_gt_of_ne hne with h | h
 ·obtain ⟨q,hq,hlt⟩:=other_way hll hss h1 h
  exact hno p q hp (by rw [hL',selL_len] at hq;exact hq) h hlt
 ·obtain ⟨q,hq,hlt⟩:=other_way hll.symm hss.symm h2 h
  have hq':q < (selN P l.length).length:=by rw [selL_len] at hq;exact hq
  exact hno q p hq' hp hlt h
def upToL (t:Int) (l:List Int):List Int:=if shrOkB t l=true then (if l.sum≤t then l else shareL t l) else []
def upToN (t:Int) (l:List Int):Int:=if shrOkB t l=true then (if l.sum≤t then t - l.sum else 0) else 0
theorem upTo_all {t:Int} {l:List Int} (h:shrOkB t l=true) (hs:l.sum≤t):upToL t l=l∧upToN t l=t - l.sum:=by simp [upToL,upToN,h,hs]
theorem upTo_share {t:Int} {l:List Int} (h:shrOkB t l=true) (hs:¬ l.sum≤t):upToL t l=shareL t l∧upToN t l=0:=by simp [upToL,upToN,h,hs]
theorem retT {x:Value} {a b:Int} (h:a=b):Ending.returned (.tuple #[x,.int .i64 a])=.returned (.tuple #[x,.int .i64 b]):=by rw [h]
end Go.Proofs.YtggmjiddadjilaeGreat
