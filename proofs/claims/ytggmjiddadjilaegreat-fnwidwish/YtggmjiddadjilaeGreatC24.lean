/-
  PROVED HERE: what is shared up to what each wants, and what is shared alike, among some columns: the same as among all, if all others want nothing. Also: 10 more texts of the same proof.
-/
import Derived.Test.YtggmjiddadjilaeGreatC23
import Derived.Test.YtggmjiddadjilaeGreatC19
import Derived.Test.YtggmjiddadjilaeGreatC12
import Derived.Test.YtggmjiddadjilaeGreatC1
import Derived.Test.YtggmjiddadjilaeGreatC13
import Derived.Test.YtggmjiddadjilaeGreatC17
import Derived.Test.YtggmjiddadjilaeGreatC22
import Derived.WalkLawsBesides
import Derived.WalkSpells
import Derived.Deep.RegionWith
import Derived.Deep.QuietTactic
import Derived.BigQuiet
import Derived.Laws.AppendOwn
import Derived.Shelf.SlGeneric
import Derived.Shelf.Lay
import Derived.Ground.SlsfProg
namespace Go.Proofs.YtggmjiddadjilaeGreat
open Go.RowKit
theorem sel_ok {t:Int} {l:List Int} {P:Nat→Bool} (hok:shrOkB t l=true):shrOkB t (selL l P l.length)=true:=by
 obtain ⟨ht,hlen,hw⟩:=shrOk_parts hok
 have hnl:(selN P l.length).length≤l.length:=by unfold selN;have:=List.length_filter_le P (List.range l.length);simpa using this
 simp only [shrOkB,Bool.and_eq_true,decide_eq_true_eq,List.all_eq_true]
 refine ⟨⟨by simp only [wtB,decide_eq_true_eq];exact ht,by rw [selL_len];omega⟩,fun x hx=>?_⟩
 unfold selL at hx
 obtain ⟨i,hi,rfl⟩:=List.mem_map.1 hx
 unfold selN at hi
 have hil:=List.mem_range.1 (List.mem_filter.1 hi).1
 rw [show l.getD i 0=l[i] by simp [List.getD,hil]]
 exact List.all_eq_true.1 hw _ (List.getElem_mem hil)
theorem upTo_sel {t:Int} {l:List Int} {P:Nat→Bool} (hok:shrOkB t l=true) (hz:∀ i,i < l.length→P i=false→l.getD i 0=0) :
  upToL t (selL l P l.length)=selL (upToL t l) P l.length∧upToN t (selL l P l.length)=upToN t l:=by
 have hsum:(selL l P l.length).sum=l.sum:=by rw [selL_sum l.length (Nat.le_refl _) hz,sumTo_all]
 have hok':=sel_ok (P:=P) hok
 by_cases hs:l.sum≤t
 ·rw [(upTo_all hok hs).1,(upTo_all hok hs).2,(upTo_all hok' (by rw [hsum];exact hs)).1,(upTo_all hok' (by rw [hsum];exact hs)).2,hsum]
  exact ⟨rfl,rfl⟩
 ·have ht:=(shrOk_parts hok).1.1
  rw [(upTo_share hok hs).1,(upTo_share hok hs).2,(upTo_share hok' (by rw [hsum];exact hs)).1,(upTo_share hok' (by rw [hsum];exact hs)).2]
  exact ⟨(share_sel hok hz (by omega)).2,rfl⟩
def oneL (P:Nat→Bool) (n:Nat):List Int:=(List.range n).map (fun i=>if P i=true then 1 else 0)
theorem oneL_len (P:Nat→Bool) (n:Nat):(oneL P n).length=n:=by simp [oneL]
theorem oneL_get {P:Nat→Bool} {n i:Nat} (h:i < n):(oneL P n).getD i 0=if P i=true then 1 else 0:=by simp [oneL,List.getD,h]
theorem oneL_ok {t:Int} (P:Nat→Bool) {n:Nat} (ht:0≤t∧t≤100000) (hn:n≤100):shrOkB t (oneL P n)=true:=by
 simp only [shrOkB,Bool.and_eq_true,decide_eq_true_eq,List.all_eq_true]
 refine ⟨⟨by simp only [wtB,decide_eq_true_eq];exact ht,by rw [oneL_len];exact hn⟩,fun x hx=>?_⟩
 unfold oneL at hx
 obtain ⟨i,_,rfl⟩:=List.mem_map.1 hx
 simp only [wtB,decide_eq_true_eq]
 split <;> omega
theorem sel_one (P:Nat→Bool) (n:Nat):selL (oneL P n) P n=List.replicate (selN P n).length 1:=by
 apply List.ext_getElem (by simp [selL])
 intro p h1 h2
 have hp:p < (selN P n).length:=by simpa [selL] using h1
 have hg:=selN_get hp
 have e:(selL (oneL P n) P n)[p]=(selL (oneL P n) P n).getD p 0:=by simp [List.getD,h1]
 rw [e,selL_get hp,oneL_get hg.1,if_pos hg.2]
 simp
theorem wts_zero (m:Nat):wts (List.replicate m (0:Int))=List.replicate m 1:=by
 unfold wts
 rw [if_pos (by induction m with
  | zero=>rfl
  | succ m ih=>rw [List.replicate_succ,List.sum_cons,ih];rfl)]
 simp
theorem wts_one (m:Nat):wts (List.replicate m (1:Int))=List.replicate m 1:=by
 unfold wts
 split
 ·simp
 ·rfl
theorem share_alike_sel {t:Int} (P:Nat→Bool) {n:Nat} (ht:0≤t∧t≤100000) (hn:n≤100) (h0:0 < (selN P n).length) :
  shareL t (List.replicate (selN P n).length 0)=selL (shareL t (oneL P n)) P n:=by
 have hok:=oneL_ok P (n:=n) ht hn
 have hz:∀ i,i < (oneL P n).length→P i=false→(oneL P n).getD i 0=0:=fun i hi hP=>by
  rw [oneL_len] at hi
  rw [oneL_get hi,if_neg (by rw [hP];simp)]
 have hnl:(selN P n).length≤n:=by unfold selN;have:=List.length_filter_le P (List.range n);simpa using this
 have hsum:(oneL P n).sum=((selN P n).length:Int):=by
  have:=selL_sum (l:=oneL P n) (P:=P) (oneL P n).length (Nat.le_refl _) hz
  rw [sumTo_all,oneL_len,sel_one,sum_ones] at this
  exact this.symm
 have h1:=(share_sel hok hz (by rw [hsum];omega)).2
 rw [oneL_len,sel_one] at h1
 rw [← h1]
 have hok0:shrOkB t (List.replicate (selN P n).length 0)=true:=by
  simp only [shrOkB,Bool.and_eq_true,decide_eq_true_eq,List.all_eq_true]
  exact ⟨⟨by simp only [wtB,decide_eq_true_eq];exact ht,by simp;omega⟩,fun x hx=>by rw [List.eq_of_mem_replicate hx];rfl⟩
 have hok1:shrOkB t (List.replicate (selN P n).length 1)=true:=by
  simp only [shrOkB,Bool.and_eq_true,decide_eq_true_eq,List.all_eq_true]
  exact ⟨⟨by simp only [wtB,decide_eq_true_eq];exact ht,by simp;omega⟩,fun x hx=>by rw [List.eq_of_mem_replicate hx];rfl⟩
 rw [shareL_some hok0 (by rw [← List.length_pos_iff];simpa using h0),shareL_some hok1 (by rw [← List.length_pos_iff];simpa using h0),wts_zero,wts_one]
def addL (a b:List Int):List Int:=List.zipWith (·+·) a b
def giveTo (l:List Int) (js:List Nat) (g:List Int):Nat→List Int
 | 0=>l
 | k+1=>(giveTo l js g k).set (js.getD k 0) ((giveTo l js g k).getD (js.getD k 0) 0+g.getD k 0)
theorem giveTo_len (l:List Int) (js:List Nat) (g:List Int):∀ k,(giveTo l js g k).length=l.length
 | 0=>rfl
 | k+1=>by rw [giveTo,List.length_set];exact giveTo_len l js g k
theorem giveTo_out (l:List Int) (js:List Nat) (g:List Int) {i:Nat}:∀ k,(∀ p,p < k→js.getD p 0 ≠ i)→(giveTo l js g k).getD i 0=l.getD i 0
 | 0,_=>rfl
 | k+1,h=>by
  rw [giveTo]
  simp only [List.getD,List.getElem?_set_ne (show js[k]?.getD 0 ≠ i from h k (by omega))]
  exact giveTo_out l js g k (fun p hp=>h p (by omega))
theorem giveTo_in {l:List Int} {P:Nat→Bool} {n:Nat} (hn:n≤l.length) (g:List Int) {p:Nat}:∀ k,k≤(selN P n).length→p < k→(giveTo l (selN P n) g k).getD ((selN P n).getD p 0) 0=l.getD ((selN P n).getD p 0) 0+g.getD p 0
 | k+1,hk,hp=>by
  have hkl:k < (selN P n).length:=by omega
  have ek:(selN P n).getD k 0=(selN P n)[k]:=by simp [List.getD,hkl]
  have hpl:p < (selN P n).length:=by omega
  have ep:(selN P n).getD p 0=(selN P n)[p]:=by simp [List.getD,hpl]
  rw [giveTo]
  by_cases e:p=k
  ·subst e
   have hlt:(selN P n).getD p 0 < (giveTo l (selN P n) g p).length:=by rw [giveTo_len,ep];have:=(selN_get hpl).1;omega
   have ho:=giveTo_out l (selN P n) g (i:=(selN P n).getD p 0) p (fun q hq=>by
    have hql:q < (selN P n).length:=by omega
    have:=selN_mono hql hpl hq
    rw [ep,show (selN P n).getD q 0=(selN P n)[q] by simp [List.getD,hql]]
    omega)
   rw [ho]
   generalize (selN P n).getD p 0=j at hlt
   simp only [List.getD,List.getElem?_set_self hlt,Option.getD_some]
  ·have hne:(selN P n).getD k 0 ≠ (selN P n).getD p 0:=by
    have:=selN_mono hpl hkl (by omega)
    rw [ek,ep]
    omega
   have ih:=giveTo_in (P:=P) hn g (p:=p) k (by omega) (by omega)
   rw [← ih]
   generalize (selN P n).getD k 0=j at hne
   generalize (selN P n).getD p 0=i at hne
   simp only [List.getD,List.getElem?_set_ne hne]
theorem give_all {l more:List Int} {P:Nat→Bool} (hl:more.length=l.length) (hz:∀ i,i < l.length→P i=false→more.getD i 0=0):giveTo l (selN P l.length) (selL more P l.length) (selN P l.length).length=addL l more:=by
 have hlen:(giveTo l (selN P l.length) (selL more P l.length) (selN P l.length).length).length=(addL l more).length:=by rw [giveTo_len,addL,List.length_zipWith,hl];omega
 apply List.ext_getElem hlen
 intro i h1 h2
 have hi:i < l.length:=by rw [giveTo_len] at h1;exact h1
 have hm:i < more.length:=by omega
 have e1:(giveTo l (selN P l.length) (selL more P l.length) (selN P l.length).length)[i]=(giveTo l (selN P l.length) (selL more P l.length) (selN P l.length).length).getD i 0:=by simp [List.getD,h1]
 have e2:(addL l more)[i]=l.getD i 0+more.getD i 0:=by simp [addL,List.getD,hi,hm]
 rw [e1,e2]
 cases hP:P i with
 | false =>
  rw [hz i hi hP,giveTo_out l _ _ _ (fun p hp e=>by
   have:=(selN_get hp).2
   rw [show (selN P l.length).getD p 0=(selN P l.length)[p] by simp [List.getD,hp]] at e
   rw [e,hP] at this
   cases this)]
  omega
 | true =>
  have hmem:i ∈ selN P l.length:=by unfold selN;rw [List.mem_filter];exact ⟨List.mem_range.2 hi,hP⟩
  obtain ⟨p,hp,hpe⟩:=List.getElem_of_mem hmem
  have hd:(selN P l.length).getD p 0=i:=by simp [List.getD,hp,hpe]
  have:=giveTo_in (l:=l) (P:=P) (n:=l.length) (Nat.le_refl _) (selL more P l.length) (p:=p) (selN P l.length).length (Nat.le_refl _) hp
  rw [hd,selL_get hp,hpe] at this
  exact this
set_option maxRecDepth 100000 in
set_option maxHeartbeats 1000000 in
theorem implsaidOf (v:Value) (ps:List (Int × Int)) (q:Int) (w:World) {z:Nat} (h:ColsAt w z v ps) :
  Calls Tryz.prog 41 #[v,.int .i64 q] w fun e w'=>e=.returned (.agg #[.int .i64 (sd ps q).1,.int .i64 (sd ps q).2])∧Below w.heap.size w w':=by
 obtain ⟨a,cap,rfl,hlen⟩:=At.form h
 have HI:=Hd (within_any q 0 ((ps.length:Int) - 1))
 unfold maxLen at hlen
 cases hin:inB q 0 ((ps.length:Int) - 1) with
 | false =>
  rw [hin] at HI
  rw [sd_no hin]
  clear hin h
  go_enter Tryz.func41,Tryz.ntmps41
  go_wp2_with fail
  refine (HI.out _).mono ?_
  rintro e w1 ⟨rfl,rfl⟩
  go_wp2
  exact bodyPost_ret (v:=.agg #[.int .i64 0,.int .i64 0]) (by simp [results,Tryz.results41,go_sem]) rfl ⟨rfl,by repeat (first | exact Below.refl _ _ | apply k_alloc)⟩
 | true =>
  rw [hin] at HI
  have hk:0≤q∧q≤(ps.length:Int) - 1:=by simpa [inB] using hin
  clear hin
  obtain ⟨k,rfl⟩:=Int.eq_ofNat_of_zero_le hk.1
  have hkl:k < ps.length:=by omega
  rw [sd_yes hkl]
  obtain ⟨b,off,cap',e',hc1,hc2,hbl,hx0,hx1⟩:=At.get h hkl
  simp only [Value.slice.injEq,true_and] at e'
  obtain ⟨rfl,rfl⟩:=e'
  unfold maxLen at hc2
  generalize ps.getD k (0,0)=p at hx0 hx1 ⊢
  clear h
  go_enter Tryz.func41,Tryz.ntmps41
  go_wp2_with fail
  refine (HI.out _).mono ?_
  rintro e w1 ⟨rfl,rfl⟩
  go_wp2
  exact bodyPost_ret (v:=.agg #[.int .i64 p.1,.int .i64 p.2]) (by simp [results,Tryz.results41,go_sem]) rfl ⟨rfl,by repeat (first | exact Below.refl _ _ | apply k_alloc)⟩
theorem field0 (a b:Value) (W:World):(Instr.field 45 (.agg #[a,b]) 0).run Tryz.prog W=.ok a W:=by
 kernel_rfl
theorem field1 (a b:Value) (W:World):(Instr.field 45 (.agg #[a,b]) 1).run Tryz.prog W=.ok b W:=by
 kernel_rfl
set_option maxRecDepth 100000 in
set_option maxHeartbeats 1000000 in
theorem implsumOfW (v:Value) (l:List Int) (w:World) (h:IntsAt w v l) :
  Calls Tryz.prog 63 #[v] w fun e w'=>e=.returned (.int .i64 (wrap64 l.sum))∧w'=w:=by
 obtain ⟨a,cap,rfl,hlen⟩:=h.form
 have H:=Hd h
 clear h
 go_enter Tryz.func63,Tryz.ntmps63
 go_wp2_with fail
 go_loop [3,8] (fun s i=>∃ k:Nat,k≤l.length∧i=.int .i64 k∧s=.int .i64 (wrap64 (sumTo l k))) (fun _ i=>l.length - (intOf i).toNat)
 case atStart=>exact ⟨0,Nat.zero_le _,rfl,by simp [sumTo,W_eq]⟩
 case round =>
  obtain ⟨k,hk,rfl,rfl⟩:=hrel
  by_cases hlt:k < l.length
  ·obtain ⟨b,off,cap',e',hc1,hc2,hbl,hx⟩:=H.out.get hlt
   simp only [Value.slice.injEq,true_and] at e'
   obtain ⟨rfl,rfl⟩:=e'
   have HS:Hid (wrap64 (wrap64 (sumTo l k)+l.getD k 0)=wrap64 (sumTo l (k+1))):=by rw [Hid,sumTo_succ hlt,W_addl]
   generalize l.getD k 0=x at hx HS
   generalize wrap64 (sumTo l k)=s at HS ⊢
   unfold maxLen at hc2
   go_wp2
   go_round
   case rel=>exact ⟨k+1,by omega,by go_num,by rw [← HS.out]⟩
   case measure=>simp [intOf];omega
  ·obtain rfl:k=l.length:=by omega
   have HE:=Hd (sumTo_all l)
   go_wp2
   go_ret
   exact ⟨by rw [← HE.out];rfl,rfl⟩
set_option maxRecDepth 100000 in
set_option maxHeartbeats 1000000 in
theorem implacrossAll (v:Value) (l:List Int) (gap:Int) (w:World) (h:IntsAt w v l) :
  Calls Tryz.prog 31 #[v,.int .i64 gap] w fun e w'=>e=.returned (.int .i64 (acrV l gap))∧w'=w:=by
 obtain ⟨a,cap,rfl,hlen⟩:=h.form
 have H:=Hd h
 clear h
 by_cases h0:l.length=0
 ·have HV:=Hd (acrV_nil h0 gap)
  rw [h0] at H ⊢
  clear h0
  go_enter Tryz.func31,Tryz.ntmps31
  go_wp2
  go_ret
  exact ⟨by rw [HV.out];rfl,rfl⟩
 ·have HV:Hid (acrV l gap=wrap64 (wrap64 l.sum+wrap64 (gap * ((l.length:Int) - 1)))):=by rw [Hid,acrV_cons h0,W_addl,W_addr]
  have h0':((l.length:Int) == 0)=false:=beq_eq_false_iff_ne.2 (by omega)
  have KS:=Hd (implsumOfW _ l w H.out)
  go_enter Tryz.func31,Tryz.ntmps31
  go_wp2_with fail
  refine KS.out.mono ?_
  rintro e w1 ⟨rfl,rfl⟩
  go_wp2
  go_ret
  exact ⟨by rw [HV.out];rfl,rfl⟩
theorem ret_boolG {a b:Bool} (h:a=b):Ending.returned (.bool a)=.returned (.bool b):=by rw [h]
def isIn (row ins:Int) (x:GC):Bool:=(x.row == row) && (x.ins == ins)
def amongB (x first many:Int):Bool:=decide (first≤x) && decide (0 < many) && decide (x - first < many)
def holdsB (row col:Int) (x:GC):Bool:=amongB row x.row x.rows && amongB col x.col x.cols
theorem wrap_sub {x f:Int} (hx:-9223372036854775808≤x∧x≤9223372036854775807) (hf:-9223372036854775808≤f∧f≤9223372036854775807) (h:f≤x):IntKind.u64.wrap (IntKind.u64.wrap x - IntKind.u64.wrap f)=x - f:=by
 simp [IntKind.wrap,IntKind.bits,IntKind.signed]
 omega
theorem reaches_any (x f m:Int) (hx:I64 x) (hf:I64 f) (hm:I64 m) (w:World) :
  Calls Tryz.prog 51 #[.int .i64 f,.int .i64 m,.int .i64 x] w fun e w'=>e=.returned (.bool (amongB x f m))∧w'=w:=by
 unfold I64 at hx hf hm
 by_cases h1:f≤x
 ·by_cases h2:0 < m
  ·have e:amongB x f m=decide (x - f < m):=by simp [amongB];omega
   rw [e]
   go_enter Tryz.func51,Tryz.ntmps51
   go_wp2
   go_ret
   exact ⟨ret_boolG (by rw [wrap_sub hx hf h1]),rfl⟩
  ·have e:amongB x f m=false:=by simp [amongB];omega
   rw [e]
   go_enter Tryz.func51,Tryz.ntmps51
   go_wp2
   go_ret
   exact ⟨rfl,rfl⟩
 ·have e:amongB x f m=false:=by simp [amongB];omega
  rw [e]
  go_enter Tryz.func51,Tryz.ntmps51
  go_wp2
  go_ret
  exact ⟨rfl,rfl⟩
def inCell (x:GC) (k:Nat):Bool:=amongB (k:Int) x.col x.cols
def cellV (l:List Int) (gap:Int) (x:GC):Int:=acrV (ownL l (inCell x) l.length) gap
theorem infoIc:(Tryz.prog.info? 3).map (fun i=>(i.zero,i.size,i.bytes))=some (some (Value.int .i64 0),1,8):=by kernel_rfl
theorem app_keeps {w w3 w4:World} {B n:Nat} {xs:List Value} {x:Int} {o:Value} (hB:w.heap.size≤B) (hO:w3.ownsRow B 3 1 o n xs) (K:Below w.heap.size w w3)
  (hg:(w3.alloc (.cells #[.int .i64 x] 3)).grownBy w4 o.ownBlock):Below w.heap.size w w4∧∀ g,g < B→g < w3.heap.size→w4.heap[g]?=w3.heap[g]?:=by
 have hA:=k_alloc K (.cells #[.int .i64 x] 3)
 refine ⟨⟨hg.os.trans hA.os,hg.tape.trans hA.tape,hg.output.trans hA.output,Nat.le_trans hA.size hg.size,fun k hk=>(hg.block k (Nat.lt_of_lt_of_le hk hA.size) (fun hb=>?_)).trans (hA.block k hk)⟩,fun k hk hl=>(hg.block k (by simp;omega) (fun hb=>?_)).trans (Below.heap_alloc _ _ _ hl)⟩
 ·have:=(hO.lt k hb.symm).1
  omega
 ·have:=(hO.lt k hb.symm).1
  omega
theorem ownL_yes {l:List Int} {p:Nat→Bool} {k:Nat} (h:p k=true):ownL l p (k+1)=ownL l p k ++ [l.getD k 0]:=by rw [ownL,if_pos h]
theorem ownL_no {l:List Int} {p:Nat→Bool} {k:Nat} (h:p k=false):ownL l p (k+1)=ownL l p k:=by rw [ownL,if_neg (by rw [h];simp)]
set_option maxRecDepth 100000 in
set_option maxHeartbeats 1000000 in
theorem implWidCell (v:Value) (l:List Int) (hl:l.length≤1048576) (gap:Int) (x:GC) (hx:GOk x) (w:World) (h:IntsAt w v l) :
  Calls Tryz.prog 23 #[v,.int .i64 gap,.agg #[.int .i64 x.row,.int .i64 x.col,.int .i64 x.rows,.int .i64 x.cols,.int .i64 x.ins]] w fun e w'=>e=.returned (.int .i64 (cellV l gap x))∧Below w.heap.size w w':=by
 obtain ⟨i0,hi,hz0,hz1,hz2⟩:=info_parts infoIc
 obtain ⟨a,cap,rfl,hlen⟩:=h.form
 obtain ⟨_,b1,_,b3,_⟩:=hx
 have K0:=k_alloc (Below.refl w.heap.size w) (.cells #[.int .i64 x.row,.int .i64 x.col,.int .i64 x.rows,.int .i64 x.cols,.int .i64 x.ins] 49)
 have X0:=newestB w (.cells #[.int .i64 x.row,.int .i64 x.col,.int .i64 x.rows,.int .i64 x.cols,.int .i64 x.ins] 49)
 have H:=Hd h
 have HR:=Hd (fun (k:Nat) (hk:k≤1048576)=>reaches_any (k:Int) x.col x.cols (by unfold I64;omega) b1 b3)
 clear h b1 b3
 go_enter Tryz.func23,Tryz.ntmps23
 go_wp2_with fail
 go_loopw [7,12] (fun o i W=>∃ k:Nat,i=.int .i64 k∧k≤l.length∧Hid (W.ownsRow (w.heap.size+1) 3 1 o (ownL l (inCell x) k).length ((ownL l (inCell x) k).map (Value.int .i64)))∧Hid (Below w.heap.size w W)∧Hid (W.heap[w.heap.size]?=some (.cells #[.int .i64 x.row,.int .i64 x.col,.int .i64 x.rows,.int .i64 x.cols,.int .i64 x.ins] 49))) (fun _ i _=>l.length - (intOf i).toNat)
 case atStart=>exact ⟨0,rfl,Nat.zero_le _,⟨by simp [ownL],.inl ⟨rfl,rfl⟩⟩,K0,X0⟩
 case round =>
  obtain ⟨k,rfl,hk,HO,HB,HX⟩:=hrel
  have c1:wr.cell? ⟨w.heap.size,1,none⟩=some (.int .i64 x.col):=cellB HX.out
  have c3:wr.cell? ⟨w.heap.size,3,none⟩=some (.int .i64 x.cols):=cellB HX.out
  by_cases hlt:k < l.length
  ·obtain ⟨b,off,cap',e',hc1,hc2,hbl,hy⟩:=(H.out.kept HB.out).get hlt
   simp only [Value.slice.injEq,true_and] at e'
   obtain ⟨rfl,rfl⟩:=e'
   unfold maxLen at hc2
   have KR:=Hd (HR.out k (by omega) wr)
   have hol:=ownL_len l (inCell x) k
   cases hin:inCell x k with
   | false =>
    have HL:=Hd (ownL_no (l:=l) hin)
    have hin':amongB (k:Int) x.col x.cols=false:=hin
    rw [hin'] at KR
    clear hin hin'
    generalize l.getD k 0=y at hy
    go_wp2_with fail
    refine KR.out.mono ?_
    rintro e w1 ⟨rfl,rfl⟩
    go_wp2
    go_roundw
    case rel=>exact ⟨k+1,by go_num,by omega,by rw [HL.out];exact HO,HB,HX⟩
    case measure=>simp [intOf];omega
   | true =>
    have HL:=Hd (ownL_yes (l:=l) hin)
    have hin':amongB (k:Int) x.col x.cols=true:=hin
    rw [hin'] at KR
    clear hin hin'
    generalize l.getD k 0=y at hy HL
    generalize ownL l (inCell x) k=xs at HO HL hol
    go_wp2_with fail
    refine KR.out.mono ?_
    rintro e w1 ⟨rfl,rfl⟩
    have hO4:=HO.out
    have hsz:w.heap.size < w1.heap.size:=(bL HX.out)
    go_wp2_with (at_builtin;refine wpList_append_own _ rfl _ _ 32 rfl (w.heap.size+1) 3 i0 (.int .i64 0) 1 8 Tryz.underlying32 hi hz0 hz1 hz2 rfl (by decide) _ _ _ rfl (hO4.alloc _) ⟨w1.heap.size,0,none⟩ 1 1 [.int .i64 y] rfl rfl ?c1 ?c2 ?c3 ?c4 ?c5 ?_)
    case c1 =>
     intro i u hi
     match i,hi with
     | 0,hi=>simp at hi;subst hi;simp [Addr.add]
    case c2=>intro u hu;simp at hu;subst hu;rfl
    case c3=>unfold maxLen;omega
    case c4=>omega
    case c5=>simp;omega
    intro v' w5 hown' hgrow' _
    obtain ⟨hB5,hX5⟩:=app_keeps (Nat.le_succ _) hO4 HB.out hgrow'
    have HB5:=Hd hB5
    have HX5:=Hd ((hX5 w.heap.size (Nat.lt_succ_self _) (bL HX.out)).trans HX.out)
    have HO5:Hid (w5.ownsRow (w.heap.size+1) 3 1 v' (xs ++ [y]).length ((xs ++ [y]).map (Value.int .i64))):=by rw [List.length_append,List.map_append];exact hown'
    obtain ⟨g',cap'',rfl⟩:=Joins.ownsRow_form hown' (by omega)
    clear hown' hgrow' hO4 hB5 hX5 HO HB HX
    go_wp2
    go_roundw
    case rel=>exact ⟨k+1,by go_num,by omega,by rw [HL.out];exact HO5,HB5,HX5⟩
    case measure=>simp [intOf];omega
  ·obtain rfl:k=l.length:=by omega
   have hI:=(RowI.of_owns HO.out).at
   obtain ⟨aa,cc,rfl,_⟩:=hI.form
   have KA:=Hd (implacrossAll _ _ gap wr hI)
   have HV:Hid (cellV l gap x=acrV (ownL l (inCell x) l.length) gap):=rfl
   clear hI
   go_wp2_with fail
   refine KA.out.mono ?_
   rintro e w1 ⟨rfl,rfl⟩
   go_wp2
   go_ret
   exact ⟨rfl,HB.out⟩
end Go.Proofs.YtggmjiddadjilaeGreat
namespace Go.Proofs.YtggmjiddadjilaeGreat
open Go.RowKit
section
variable {P:Program} {ops:Array Oper} {C:World→Prop}
def succB (ops:Array Oper) (z:Nat):Bool:=(List.range z).all fun i=>(List.range (z+1)).any fun j=>decide (i < j) && edgeB ops j i
theorem all_ahead {z:Nat} {L:Nat→Bool} (hs:succB ops z=true) (hc:Closed ops L) {o:Oper} (ho:ops[z]?=some o) (ha:∀ e ∈ o.after,Region.binds .any e=true→L e.on=true):∀ n i,z - i≤n→i < z→L i=true
 | 0,i,h,hi=>by omega
 | n+1,i,h,hi=>by
  have h1:=List.all_eq_true.1 hs i (List.mem_range.2 hi)
  obtain ⟨j,hj,h2⟩:=List.any_eq_true.1 h1
  have hjz:=List.mem_range.1 hj
  rw [Bool.and_eq_true] at h2
  obtain ⟨h3,h4⟩:=h2
  have h3:=of_decide_eq_true h3
  by_cases e:j=z
  ·subst e
   unfold edgeB at h4
   rw [ho] at h4
   simp only [Option.map_some,Option.getD_some,List.any_eq_true,Bool.and_eq_true,beq_iff_eq] at h4
   obtain ⟨e,he1,he2,he3⟩:=h4
   have:=ha e (by simpa using he1) he2
   rwa [he3] at this
  ·have hLj:=all_ahead hs hc ho ha n j (by omega) (by omega)
   cases hLi:L i with
   | true=>rfl
   | false=>rw [hc j i h4 hLi] at hLj;cases hLj
theorem closed_set {listed:Array Bool} {j:Nat} (h:Closed ops (fun k=>listed.getD k false)) (hj:j ∈ Region.ready .any ops listed):Closed ops (fun k=>(listed.setIfInBounds j true).getD k false):=by
 obtain ⟨h0,o,ho,ha⟩:=mem_ready.1 hj
 have hlt:j < listed.size:=by
  rcases Nat.lt_or_ge j listed.size with h' | h'
  ·exact h'
  ·rw [Array.getD_eq_getD_getElem?,Array.getElem?_eq_none h'] at h0
   cases h0
 rw [listed_set hlt]
 exact h.next ho ha
def wpAnyM (P:Program) (ops:Array Oper) (C:World→Prop) (z:Nat) (R:Act→Prop):Nat→Array Bool→Act→Prop
 | 0,_,_=>False
 | fuel+1,listed,a=>Region.ready .any ops listed ≠ []∧∀ i ∈ Region.ready .any ops listed,if i=z then (fuel=0∧Region.ready .any ops (listed.setIfInBounds z true)=[]∧R a) else qOp P ops C i (wpAnyM P ops C z R fuel (listed.setIfInBounds i true)) a
theorem wpAny_of_M {Q:Exit→Act→World→Prop} {R:Act→Prop} {z:Nat} (hR:∀ a w,C w→R a→wpOp P ops Q z (fun a' w'=>Q .normal a' w') a w):∀ (fuel:Nat) (listed:Array Bool) (a:Act) (w:World),C w→wpAnyM P ops C z R fuel listed a→wpAny P .any ops Q fuel listed a w
 | 0,_,_,_,_,h=>h.elim
 | fuel+1,listed,a,w,hw,h=>⟨fun h0=>absurd h0 h.1,fun i hi=>by
   have h2:=h.2 i hi
   by_cases hz:i=z
   ·rw [if_pos hz] at h2
    obtain ⟨h3,hr,hRa⟩:=h2
    subst h3
    subst hz
    exact wpOp_mono (fun a' w' h'=>⟨hr,h'⟩) (hR a w hw hRa)
   ·rw [if_neg hz] at h2
    exact wpOp_of_qOp hw (fun a' w' hw'=>wpAny_of_M hR fuel _ a' w' hw') h2⟩
theorem wpAnyM_first {R:Act→Prop} {z i:Nat} {oi:Oper} {v:Value} (hs:succB ops z=true) (hi:ops[i]?=some oi) (hiz:i < z) (hsel:∀ (j:Nat) (o:Oper) cs b,ops[j]?=some o→o.op ≠ .select cs b) :
  ∀ (fuel:Nat) (listed:Array Bool) (a:Act),Closed ops (fun k=>listed.getD k false) →
   (∀ j oj,ops[j]?=some oj→j ≠ i→listed.getD j true=false→(∀ e ∈ oj.after,Region.binds .any e=true→e.on ≠ i)→oi.apart ops oj=true) →
   i ∈ Region.ready .any ops listed→YieldsIn P ops C oi v a →
   wpAnyM P ops C z R fuel (listed.setIfInBounds i true) (a.put oi.dst v)→wpAnyM P ops C z R (fuel+1) listed a:=by
 intro fuel
 induction fuel with
 | zero=>intro listed a _ _ _ _ H;exact H.elim
 | succ fuel ih =>
  intro listed a hcl hfree hr hy H
  refine ⟨fun h=>(by rw [h] at hr;cases hr),fun j hj=>?_⟩
  by_cases hji:j=i
  ·rw [if_neg (by omega)];subst hji;exact hy.qOp hi H
  ·have hjz:j ≠ z:=fun e=>by
    subst e
    obtain ⟨_,o,ho,ha⟩:=mem_ready.1 hj
    have h1:=all_ahead hs hcl ho ha _ i (Nat.le_refl _) hiz
    have h0:=(mem_ready.1 hr).1
    rcases Nat.lt_or_ge i listed.size with h' | h'
    ·simp [h'] at h0 h1;rw [h0] at h1;cases h1
    ·simp [Array.getElem?_eq_none h'] at h1
   rw [if_neg hjz]
   have h1:=H.2 j (ready_mono hj hji)
   rw [if_neg hjz] at h1
   obtain ⟨hjun,oj,hoj,hall⟩:=mem_ready.1 hj
   have hnot:∀ e ∈ oj.after,Region.binds .any e=true→e.on ≠ i:=fun e he hb heq=>by
    have h1:=hall e he hb
    have h0:=(mem_ready.1 hr).1
    rw [heq] at h1
    rcases Nat.lt_or_ge i listed.size with h' | h'
    ·simp [h'] at h0 h1;rw [h0] at h1;cases h1
    ·simp [Array.getElem?_eq_none h'] at h1
   have h2:=qOp_put hoj (hfree j oj hoj hji hjun hnot) (fun cs b=>hsel i oi cs b hi) (fun cs b=>hsel j oj cs b hoj) hy h1
   have hfree':∀ k ok,ops[k]?=some ok→k ≠ i→(listed.setIfInBounds j true).getD k true=false →
     (∀ e ∈ ok.after,Region.binds .any e=true→e.on ≠ i)→oi.apart ops ok=true:=fun k ok hk hki hun hno=>by
    refine hfree k ok hk hki ?_ hno
    by_cases hjk:j=k
    ·subst hjk;exact hjun
    ·rw [getD_set_ne true hjk] at hun;exact hun
   refine qOp_mono (fun a' h3=>ih (listed.setIfInBounds j true) a' (closed_set hcl hj) hfree' (ready_mono hr (Ne.symm hji)) h3.1 ?_) h2
   rw [Array.setIfInBounds_comm _ _ hji]
   exact h3.2
theorem wpAnyM_lex {R:Act→Prop} {z:Nat} (hns:Region.noSelect ops=true) (hs:succB ops z=true):∀ (l:List Oper) (k:Nat) (listed:Array Bool) (a:Act),k+l.length=z→(∀ j,j < l.length→l[j]?=ops[k+j]?)→Closed ops (fun k=>listed.getD k false) →
  Region.lexFrom .any ops (l.length+1) k listed=true→wpQuiet P ops C R l a→wpAnyM P ops C z R (l.length+1) listed a
 | [],k,listed,a,hk,_,_,hB,h=>by
  simp only [List.length_nil,Region.lexFrom,Bool.and_eq_true] at hB
  obtain ⟨⟨hr,_⟩,he⟩:=hB
  have hk':k=z:=by simpa using hk
  subst hk'
  have hr':k ∈ Region.ready .any ops listed:=by simpa using hr
  have he':Region.ready .any ops (listed.setIfInBounds k true)=[]:=by simpa using he
  refine ⟨fun h=>(by rw [h] at hr';cases hr'),fun i hi=>?_⟩
  by_cases hik:i=k
  ·rw [if_pos hik];exact ⟨rfl,he',h⟩
  ·have:=ready_mono hi hik
   rw [he'] at this
   cases this
 | o :: l,k,listed,a,hk,hl,hcl,hB,h=>by
  have h0:ops[k]?=some o:=by simpa using (hl 0 (by simp)).symm
  simp only [List.length_cons] at hk hB ⊢
  rw [Region.lexFrom] at hB
  simp only [Bool.and_eq_true] at hB
  obtain ⟨⟨hr,hf⟩,hB'⟩:=hB
  have hr':k ∈ Region.ready .any ops listed:=by simpa using hr
  have hst:qOp P ops C k (wpQuiet P ops C R l) a:=by unfold qOp;simp only [h0];exact h
  obtain ⟨v,hy,hK⟩:=yieldsIn_of_qOp h0 hst
  exact wpAnyM_first hs h0 (by omega) (Region.noSelect_spec hns) (l.length+1) listed a hcl (Region.free_spec h0 hf) hr' hy
   (wpAnyM_lex hns hs l (k+1) _ _ (by omega) (fun j hj=>by have:=hl (j+1) (by simpa using hj);simpa [Nat.add_assoc,Nat.add_comm 1 j] using this) (closed_set hcl hr') hB' hK)
end
theorem wp_region_last {P:Program} {id:Nat} {Q:Exit→Act→World→Prop} {a:Act} {w:World} {l:List Oper} (n:Nat) {o:Oper} (hm:P.follows .mixedOrders=true) (hl:l.length=n+1) (ho:l[n]?=some o) (hB:Region.lexB .any l.toArray=true) (hs:succB l.toArray n=true)
  (h:wpQuiet P l.toArray (fun w'=>∃ p:BW w,w'=p.u) (fun a'=>∀ w',(∃ p:BW w,w'=p.u)→if Region.wanted o (yielded l.toArray a'.tmps)=true then o.wp P a' w' (fun a w=>Q .normal a w) Q else Q .normal (a'.put o.dst undef) w') (l.take n) a):(Code.region id l.toArray true).wp P Q a w:=by
 simp only [Region.lexB,Bool.and_eq_true] at hB
 have hlt:(l.take n).length=n:=by rw [List.length_take];omega
 refine wp_region_any hm (wpAny_of_M (C:=fun w'=>∃ p:BW w,w'=p.u) (z:=n) (R:=fun a'=>∀ w',(∃ p:BW w,w'=p.u)→if Region.wanted o (yielded l.toArray a'.tmps)=true then o.wp P a' w' (fun a w=>Q .normal a w) Q else Q .normal (a'.put o.dst undef) w') ?_ _ _ _ _ ⟨⟨_,k_drew (Below.refl _ _)⟩,rfl⟩ ?_)
 ·intro a' w' hw' hR
  have h1:=hR w' hw'
  unfold wpOp
  rw [show l.toArray[n]?=some o by simpa using ho]
  dsimp only
  split
  ·rename_i hw;rw [if_pos hw] at h1;exact .inl h1
  ·rename_i hw;rw [if_neg hw] at h1;exact h1
 ·have:=wpAnyM_lex (P:=P) (C:=fun w'=>∃ p:BW w,w'=p.u) hB.1 hs (l.take n) 0 (Array.replicate l.toArray.size false) a (by omega) (fun j hj=>by rw [hlt] at hj;simp [hj]) (fun j i _ _=>by
   show (Array.replicate l.toArray.size false).getD j false=false
   rw [Array.getD_eq_getD_getElem?,Array.getElem?_replicate]
   split <;> rfl) (by rw [hlt,← hl];simpa using hB.2) h
  rw [hlt,← hl] at this
  simpa using this
end Go.Proofs.YtggmjiddadjilaeGreat
namespace Go.Proofs.YtggmjiddadjilaeGreat
open Go.RowKit Go.Shelf Go.Lib Go.Sort
set_option maxHeartbeats 1000000 in
theorem compare_any (a b:Int) (w:World):Calls Tryz.prog 121 #[.int .i64 a,.int .i64 b] w fun e w'=>e=.returned (.int .i64 (if a < b then -1 else if b < a then 1 else 0))∧w'=w:=by
 have hn:∀ (x:Int) (W:World),Calls Tryz.prog 128 #[.int .i64 x] W fun e w'=>e=.returned (.bool false)∧w'=W:=fun x W=>by
  have hx:(x != x)=false:=by simp
  go_enter Tryz.func128,Tryz.ntmps128
  go_wp2
  go_ret
  exact ⟨rfl,rfl⟩
 by_cases h1:a < b
 ·rw [if_pos h1]
  go_enter Tryz.func121,Tryz.ntmps121
  go_wp2_with (go_at_call 128;refine (hn _ _).mono ?_;rintro e w' ⟨rfl,rfl⟩)
  go_ret
  exact ⟨rfl,rfl⟩
 ·rw [if_neg h1]
  by_cases h2:b < a
  ·rw [if_pos h2]
   go_enter Tryz.func121,Tryz.ntmps121
   go_wp2_with (go_at_call 128;refine (hn _ _).mono ?_;rintro e w' ⟨rfl,rfl⟩)
   go_ret
   exact ⟨rfl,rfl⟩
  ·rw [if_neg h2]
   go_enter Tryz.func121,Tryz.ntmps121
   go_wp2_with (go_at_call 128;refine (hn _ _).mono ?_;rintro e w' ⟨rfl,rfl⟩)
   go_ret
   exact ⟨rfl,rfl⟩
set_option maxHeartbeats 1000000 in
theorem rank_any (x y:Cl) (W:World):Calls Tryz.prog 110 #[.agg #[.int .i64 x.p,.int .i64 x.w,.int .i64 x.o],.agg #[.int .i64 y.p,.int .i64 y.w,.int .i64 y.o]] W fun e w'=>e=.returned (.int .i64 (cfC x y))∧∃ q os',w'=grow (W.drewN q) os':=by
 have hcon:=fun W'=>compare_any y.o x.o W'
 have he:cfC x y=(if y.o < x.o then -1 else if x.o < y.o then 1 else 0):=rfl
 rw [he]
 generalize (if y.o < x.o then (-1:Int) else if x.o < y.o then 1 else 0)=r at hcon
 go_enter Tryz.func110,Tryz.ntmps110
 go_wp2_with (go_at_call 121;refine (hcon _).mono ?_;rintro e w' ⟨rfl,rfl⟩)
 go_ret
 exact ⟨rfl,0,_,by rw [alloc_eq_grow,alloc_eq_grow,grow_grow];rfl⟩
theorem cmpC (blk off size:Nat) (w:World):CmpLays Tryz.prog 110 #[] encC 3 cfC blk off size w:=fun _ _ _ _ x y=>rank_any x y _
theorem egC:∀ args w,(callFunc 110 args).run Tryz.prog w=.ok (.enter 110 args) w:=enters_of Tryz.func110 (by kernel_rfl) rfl
theorem size_insInner (lt:Cl→Cl→Bool) (a:Nat):∀ (j:Nat) (d:Array Cl),(insInner lt a j d).size=d.size
 | 0,d=>by unfold insInner;rfl
 | j+1,d=>by
  unfold insInner
  split
  ·rw [size_insInner lt a j,size_swp]
  ·rfl
theorem size_insOuter (lt:Cl→Cl→Bool) (a b:Nat):∀ (n i:Nat) (d:Array Cl),b - i=n→(insOuter lt a b i d).size=d.size
 | 0,i,d,hn=>by rw [insOuter_stop _ _ _ _ _ (by omega)]
 | n+1,i,d,hn=>by rw [insOuter_go _ _ _ _ _ (by omega),size_insOuter lt a b n (i+1) _ (by omega),size_insInner]
theorem size_ins (d:Array Cl) (a b:Nat):(Sort.insertionSort (ltOf cfC) d a b).size=d.size:=size_insOuter _ _ _ _ _ _ rfl
shelf_lay_g SlLaysF0.n20 Slsf 20 at Tryz 126 as insC
theorem ins_any (blk off cap a b:Nat) (d0 d:Array Cl) (w0 w:World) (R:RowK encC 3 w0 blk off d0) (hs:d0.size=d.size) (S:SWK encC 3 w0 blk off d w) (hab:a≤b) (hb:b≤d.size) (hsz:d.size < 4611686018427387904) :
  Calls Tryz.prog 126 #[.slice (some ⟨blk,off,none⟩) d.size cap,.int .i64 a,.int .i64 b,.func (.func 110) #[] #[]] w fun e w' =>
   e=.returned (.tuple #[])∧SWK encC 3 w0 blk off (Sort.insertionSort (ltOf cfC) d a b) w':=by
 have hbl:blk < w.heap.size:=Nat.lt_of_lt_of_le R.hblk S.le
 refine (AnyQ.insertionSortCmpFunc insC 3 Tryz.isAgg140 Tryz.sizeOf140 encC encC_len encC_one cfC 110 #[] blk off cap a b d w egC (cmpC blk off d.size w) (S.holds R.hblk R.hH (by omega)) hbl hab hb hsz).mono ?_
 rintro e w' ⟨rfl,n,os,rfl⟩
 exact ⟨rfl,S.on R.hblk n _ os (size_ins d a b)⟩
end Go.Proofs.YtggmjiddadjilaeGreat
namespace Go.Proofs.YtggmjiddadjilaeGreat
open Go.Sort
structure SwR (a b n:Nat) (d d':Array Cl):Prop where
 size:d'.size=d.size
 left:∀ t,t < n→d'[a+t]! = d[b+t]!
 right:∀ t,t < n→d'[b+t]! = d[a+t]!
 rest:∀ t,(t < a∨a+n≤t)→(t < b∨b+n≤t)→d'[t]! = d[t]!
theorem SwR.zero (a b:Nat) (d:Array Cl):SwR a b 0 d d:=⟨rfl,fun _ h=>absurd h (Nat.not_lt_zero _),fun _ h=>absurd h (Nat.not_lt_zero _),fun _ _ _=>rfl⟩
theorem SwR.next {a b i:Nat} {d dk:Array Cl} (h:SwR a b i d dk) (hab:a+i < b) (hb:b+i < d.size):SwR a b (i+1) d (swp dk (a+i) (b+i)):=by
 have hs:=h.size
 refine ⟨by rw [size_swp];exact hs,fun t ht=>?_,fun t ht=>?_,fun t h1 h2=>?_⟩
 ·by_cases e:t=i
  ·subst e
   rw [swp_left _ _ _ (by omega) (by omega)]
   exact h.rest _ (by omega) (by omega)
  ·rw [swp_other _ _ _ _ (by omega) (by omega)]
   exact h.left t (by omega)
 ·by_cases e:t=i
  ·subst e
   rw [swp_right _ _ _ (by omega)]
   exact h.rest _ (by omega) (by omega)
  ·rw [swp_other _ _ _ _ (by omega) (by omega)]
   exact h.right t (by omega)
 ·rw [swp_other _ _ _ _ (by omega) (by omega)]
  exact h.rest t (by omega) (by omega)
theorem ix {d:Array Cl} {i j:Nat} (h:i=j):d[i]! = d[j]! := by rw [h]
structure RotD (a m b:Nat) (d d':Array Cl):Prop where
 size:d'.size=d.size
 low:∀ t,a≤t→t < a+(b - m)→d'[t]! = d[t+(m - a)]!
 high:∀ t,a+(b - m)≤t→t < b→d'[t]! = d[t - (b - m)]!
 rest:∀ t,t < a∨b≤t→d'[t]! = d[t]!
theorem RotD.left_none (m b:Nat) (d:Array Cl):RotD m m b d d :=
 ⟨rfl,fun t _ _=>ix (by omega),fun t h1 h2=>by omega,fun _ _=>rfl⟩
theorem RotD.right_none (a m:Nat) (d:Array Cl):RotD a m m d d :=
 ⟨rfl,fun t h1 h2=>by omega,fun t _ _=>ix (by omega),fun _ _=>rfl⟩
theorem RotD.more {m i j:Nat} {d dk f:Array Cl} (hj:j < i) (hi:i≤m) (h:SwR (m - i) m j d dk) (k:RotD (m - i+j) m (m+j) dk f):RotD (m - i) m (m+j) d f:=by
 refine ⟨k.size.trans h.size,fun t h1 h2=>?_,fun t h1 h2=>?_,fun t h1=>?_⟩
 ·rw [k.rest t (by omega),ix (show t=m - i+(t - (m - i)) by omega),h.left _ (by omega)]
  exact ix (by omega)
 ·by_cases e:t < m - i+j+j
  ·rw [k.low t (by omega) (by omega),ix (show t+(m - (m - i+j))=m+(t+i - j - m) by omega),h.right _ (by omega)]
   exact ix (by omega)
  ·rw [k.high t (by omega) (by omega),h.rest _ (by omega) (by omega)]
 ·rw [k.rest t (by omega),h.rest t (by omega) (by omega)]
theorem RotD.less {m i j:Nat} {d dk f:Array Cl} (hj:i < j) (hi:i≤m) (h:SwR (m - i) (m+j - i) i d dk) (k:RotD (m - i) m (m+j - i) dk f):RotD (m - i) m (m+j) d f:=by
 refine ⟨k.size.trans h.size,fun t h1 h2=>?_,fun t h1 h2=>?_,fun t h1=>?_⟩
 ·by_cases e:t < m - i+(j - i)
  ·rw [k.low t (by omega) (by omega),h.rest _ (by omega) (by omega)]
  ·rw [k.high t (by omega) (by omega),ix (show t - (m+j - i - m)=m - i+(t - (j - i) - (m - i)) by omega),h.left _ (by omega)]
   exact ix (by omega)
 ·rw [k.rest t (by omega),ix (show t=m+j - i+(t - (m+j - i)) by omega),h.right _ (by omega)]
  exact ix (by omega)
 ·rw [k.rest t (by omega),h.rest t (by omega) (by omega)]
theorem RotD.even {m i:Nat} {d f:Array Cl} (hi:i≤m) (h:SwR (m - i) m i d f):RotD (m - i) m (m+i) d f:=by
 refine ⟨h.size,fun t h1 h2=>?_,fun t h1 h2=>?_,fun t h1=>h.rest t (by omega) (by omega)⟩
 ·rw [ix (show t=m - i+(t - (m - i)) by omega),h.left _ (by omega)]
  exact ix (by omega)
 ·rw [ix (show t=m+(t - m) by omega),h.right _ (by omega)]
  exact ix (by omega)
theorem RotD.up {a k:Nat} {d dk:Array Cl} (h:RotD a (a+1) (k+1) d dk) (hk:a≤k) (hs:k+1 < d.size):RotD a (a+1) (k+2) d (swp dk k (k+1)):=by
 have hz:=h.size
 refine ⟨by rw [size_swp];exact hz,fun t h1 h2=>?_,fun t h1 h2=>?_,fun t h1=>?_⟩
 ·by_cases e:t=k
  ·subst e
   rw [swp_left _ _ _ (by omega) (by omega),h.rest _ (by omega)]
   exact ix (by omega)
  ·rw [swp_other _ _ _ _ (by omega) (by omega),h.low t (by omega) (by omega)]
 ·obtain rfl:t=k+1:=by omega
  rw [swp_right _ _ _ (by omega),h.high k (by omega) (by omega)]
  exact ix (by omega)
 ·rw [swp_other _ _ _ _ (by omega) (by omega),h.rest t (by omega)]
theorem RotD.down {m k:Nat} {d dk:Array Cl} (h:RotD (k+1) m (m+1) d dk) (hk:k+1≤m) (hs:m < d.size):RotD k m (m+1) d (swp dk (k+1) k):=by
 have hz:=h.size
 refine ⟨by rw [size_swp];exact hz,fun t h1 h2=>?_,fun t h1 h2=>?_,fun t h1=>?_⟩
 ·obtain rfl:t=k:=by omega
  rw [swp_right _ _ _ (by omega),h.low (t+1) (by omega) (by omega)]
  exact ix (by omega)
 ·by_cases e:t=k+1
  ·subst e
   rw [swp_left _ _ _ (by omega) (by omega),h.rest k (by omega)]
   exact ix (by omega)
  ·rw [swp_other _ _ _ _ (by omega) (by omega),h.high t (by omega) (by omega)]
 ·rw [swp_other _ _ _ _ (by omega) (by omega),h.rest t (by omega)]
theorem RotD.perm {a m b:Nat} {d d':Array Cl} (h:RotD a m b d d') (h1:a≤m) (h2:m≤b) (hb:b≤d.size):PermIn a b d d':=by
 refine ⟨h.size,h.rest,?_⟩
 rw [extract_toList _ _ _ (by rw [h.size];exact hb),extract_toList _ _ _ hb]
 have e1:(List.range' a (b - a)).map (fun i=>d'[i]!)=(List.range' m (b - m)).map (fun i=>d[i]!) ++ (List.range' a (m - a)).map (fun i=>d[i]!):=by
  apply List.ext_getElem
  ·simp;omega
  ·intro i g1 g2
   simp only [List.length_map,List.length_range'] at g1
   by_cases e:i < b - m
   ·rw [List.getElem_append_left (by simpa using e)]
    simp only [List.getElem_map,List.getElem_range']
    rw [h.low _ (by omega) (by omega)]
    exact ix (by omega)
   ·rw [List.getElem_append_right (by simp;omega)]
    simp only [List.getElem_map,List.getElem_range',List.length_map,List.length_range']
    rw [h.high _ (by omega) (by omega)]
    exact ix (by omega)
 have e2:(List.range' a (b - a)).map (fun i=>d[i]!)=(List.range' a (m - a)).map (fun i=>d[i]!) ++ (List.range' m (b - m)).map (fun i=>d[i]!):=by
  rw [← List.map_append]
  have e3:List.range' a (b - a)=List.range' a (m - a) ++ List.range' m (b - m):=by
   have:=List.range'_append (s:=a) (m:=m - a) (n:=b - m) (step:=1)
   rw [show a+1 * (m - a)=m by omega,show m - a+(b - m)=b - a by omega] at this
   exact this.symm
  rw [e3]
 rw [e1,e2]
 exact List.perm_append_comm
def Cross (a m b:Nat) (d:Array Cl):Prop:=∀ x y,a≤x→x < m→m≤y→y < b→d[x]!.p < d[y]!.p
structure MPre (a m b:Nat) (d:Array Cl):Prop where
 l:SortedIn tB a m d
 r:SortedIn tB m b d
 c:Cross a m b d
theorem le_of {d:Array Cl} {a b i j:Nat} (h:SortedIn tB a b d) (h1:a≤i) (h2:i≤j) (h3:j < b):tB d[j]! d[i]! = false:=by
 rcases Nat.lt_or_eq_of_le h2 with h4 | rfl
 ·exact h i j h1 h4 h3
 ·exact swoT.irrefl _
theorem merge_one_left {a i b:Nat} {d d':Array Cl} (h:MPre a (a+1) b d) (hr:RotD a (a+1) i d d') (hi:a+1≤i) (hib:i≤b)
  (h1:a+1 < i→tB d[i - 1]! d[a]! = true) (h2:i < b→tB d[i]! d[a]! = false):SortedIn tB a b d':=by
 have hx:∀ q,a+1≤q→q < i→tB d[a]! d[q]! = false:=fun q g1 g2 =>
  swoT.ntrans _ d[i - 1]! _ (tB_asymm (h1 (by omega))) (le_of h.r g1 (by omega) (by omega))
 have hy:∀ q,i≤q→q < b→tB d[q]! d[a]! = false:=fun q g1 g2 =>
  swoT.ntrans _ d[i]! _ (le_of h.r (by omega) g1 g2) (h2 (by omega))
 intro x y g1 g2 g3
 have lo:∀ t,a≤t→t < i - 1→d'[t]! = d[t+1]! := fun t q1 q2=>by rw [hr.low t q1 (by omega)];exact ix (by omega)
 have mi:d'[i - 1]! = d[a]! := by rw [hr.high (i - 1) (by omega) (by omega)];exact ix (by omega)
 have hh:∀ t,i≤t→d'[t]! = d[t]! := fun t q=>hr.rest t (by omega)
 by_cases e1:y < i - 1
 ·rw [lo x g1 (by omega),lo y (by omega) e1]
  exact h.r _ _ (by omega) (by omega) (by omega)
 ·by_cases e2:y=i - 1
  ·rw [e2,mi,lo x g1 (by omega)]
   exact hx _ (by omega) (by omega)
  ·rw [hh y (by omega)]
   by_cases e3:x < i - 1
   ·rw [lo x g1 e3]
    exact h.r _ _ (by omega) (by omega) g3
   ·by_cases e4:x=i - 1
    ·rw [e4,mi]
     exact hy y (by omega) g3
    ·rw [hh x (by omega)]
     exact h.r _ _ (by omega) g2 g3
theorem merge_one_right {a i m:Nat} {d d':Array Cl} (h:MPre a m (m+1) d) (hr:RotD i m (m+1) d d') (hi:a≤i) (hib:i≤m)
  (h1:a < i→tB d[m]! d[i - 1]! = false) (h2:i < m→tB d[m]! d[i]! = true):SortedIn tB a (m+1) d':=by
 have hx:∀ q,a≤q→q < i→tB d[m]! d[q]! = false:=fun q g1 g2 =>
  swoT.ntrans _ d[i - 1]! _ (h1 (by omega)) (le_of h.l g1 (by omega) (by omega))
 have hy:∀ q,i≤q→q < m→tB d[q]! d[m]! = false:=fun q g1 g2 =>
  swoT.ntrans _ d[i]! _ (le_of h.l hi g1 g2) (tB_asymm (h2 (by omega))) |> fun _=>by
   have t1:=tB_asymm (h2 (by omega))
   cases e:tB d[q]! d[m]!
   ·rfl
   ·have:=swoT.trans _ _ _ e (h2 (by omega))
    rw [le_of h.l hi g1 g2] at this
    cases this
 intro x y g1 g2 g3
 have lo:∀ t,t < i→d'[t]! = d[t]! := fun t q=>hr.rest t (by omega)
 have mi:d'[i]! = d[m]! := by rw [hr.low i (by omega) (by omega)];exact ix (by omega)
 have hh:∀ t,i < t→t < m+1→d'[t]! = d[t - 1]! := fun t q1 q2=>by rw [hr.high t (by omega) (by omega)];exact ix (by omega)
 by_cases e1:y < i
 ·rw [lo x (by omega),lo y e1]
  exact h.l _ _ g1 g2 (by omega)
 ·by_cases e2:y=i
  ·rw [e2,mi,lo x (by omega)]
   exact hx x g1 (by omega)
  ·rw [hh y (by omega) g3]
   by_cases e3:x < i
   ·rw [lo x e3]
    exact h.l _ _ g1 (by omega) (by omega)
   ·by_cases e4:x=i
    ·rw [e4,mi]
     exact hy _ (by omega) (by omega)
    ·rw [hh x (by omega) (by omega)]
     exact h.l _ _ (by omega) (by omega) (by omega)
end Go.Proofs.YtggmjiddadjilaeGreat
