/-
  PROVED HERE: what the program's acrossAll and WidCell answer of any list of numbers in memory and any cell; nothing that was in memory is turned. Also: 11 more texts of the same proof.
-/
import Derived.Test.YtojogjlblgcioanGreatC25
import Derived.Test.YtojogjlblgcioanGreatC13
import Derived.Test.YtojogjlblgcioanGreatC2
import Derived.Test.YtojogjlblgcioanGreatC21
import Derived.Test.YtojogjlblgcioanGreatC12
import Derived.Test.YtojogjlblgcioanGreatC1
import Derived.Test.YtojogjlblgcioanGreatC17
import Derived.Laws.AppendOwn
import Derived.Shelf.SlGeneric
import Derived.Shelf.Lay
import Derived.Ground.SlsfProg
namespace Go.Proofs.YtojogjlblgcioanGreat
open Go.RowKit
def inCell (x:GC) (k:Nat):Bool:=amongB (k:Int) x.col x.cols
def cellV (l:List Int) (gap:Int) (x:GC):Int:=acrV (ownL l (inCell x) l.length) gap
theorem infoIc:(Tryz.prog.info? 3).map (fun i=>(i.zero,i.size,i.bytes))=some (some (Value.int .i64 0),1,8):=by kernel_rfl
theorem app_keeps {w w3 w4:World} {B n:Nat} {xs:List Value} {x:Int} {o:Value} (hB:w.heap.size≤B) (hO:w3.ownsRow B 3 1 o n xs) (K:Below w.heap.size w w3)
  (hg:(w3.alloc (.cells #[.int .i64 x] 3)).grownBy w4 o.ownBlock):Below w.heap.size w w4∧∀ g,g < B→g < w3.heap.size→w4.heap[g]?=w3.heap[g]?:=by
 have hA:=k_alloc K (.cells #[.int .i64 x] 3)
 refine ⟨⟨hg.os.trans hA.os,hg.tape.trans hA.tape,hg.output.trans hA.output,Nat.le_trans hA.size hg.size,fun k hk=>(hg.block k (Nat.lt_of_lt_of_le hk hA.size) (fun hb=>?_)).trans (hA.block k hk)⟩,fun k hk hl=>(hg.block k (by simp;omega) (fun hb=>?_)).trans (Below.heap_alloc _ _ _ hl)⟩
 ·have:=(hO.lt k hb.symm).1
  omega
 ·have:=(hO.lt k hb.symm).1
  omega
theorem ownL_yes {l:List Int} {p:Nat→Bool} {k:Nat} (h:p k=true):ownL l p (k+1)=ownL l p k ++ [l.getD k 0]:=by rw [ownL,if_pos h]
theorem ownL_no {l:List Int} {p:Nat→Bool} {k:Nat} (h:p k=false):ownL l p (k+1)=ownL l p k:=by rw [ownL,if_neg (by rw [h];simp)]
set_option maxRecDepth 100000 in
set_option maxHeartbeats 1000000 in
theorem implWidCell (v:Value) (l:List Int) (hl:l.length≤1048576) (gap:Int) (x:GC) (hx:GOk x) (w:World) (h:IntsAt w v l) :
  Calls Tryz.prog 66 #[v,.int .i64 gap,.agg #[.int .i64 x.row,.int .i64 x.col,.int .i64 x.rows,.int .i64 x.cols,.int .i64 x.ins]] w fun e w'=>e=.returned (.int .i64 (cellV l gap x))∧Below w.heap.size w w':=by
 obtain ⟨i0,hi,hz0,hz1,hz2⟩:=info_parts infoIc
 obtain ⟨a,cap,rfl,hlen⟩:=h.form
 obtain ⟨_,b1,_,b3,_⟩:=hx
 have K0:=k_alloc (Below.refl w.heap.size w) (.cells #[.int .i64 x.row,.int .i64 x.col,.int .i64 x.rows,.int .i64 x.cols,.int .i64 x.ins] 78)
 have X0:=newestB w (.cells #[.int .i64 x.row,.int .i64 x.col,.int .i64 x.rows,.int .i64 x.cols,.int .i64 x.ins] 78)
 have H:=Hd h
 have HR:=Hd (fun (k:Nat) (hk:k≤1048576)=>reaches_any (k:Int) x.col x.cols (by unfold I64;omega) b1 b3)
 clear h b1 b3
 go_enter Tryz.func66,Tryz.ntmps66
 go_wp2_with fail
 go_loopw [7,12] (fun o i W=>∃ k:Nat,i=.int .i64 k∧k≤l.length∧Hid (W.ownsRow (w.heap.size+1) 3 1 o (ownL l (inCell x) k).length ((ownL l (inCell x) k).map (Value.int .i64)))∧Hid (Below w.heap.size w W)∧Hid (W.heap[w.heap.size]?=some (.cells #[.int .i64 x.row,.int .i64 x.col,.int .i64 x.rows,.int .i64 x.cols,.int .i64 x.ins] 78))) (fun _ i _=>l.length - (intOf i).toNat)
 case atStart=>exact ⟨0,rfl,Nat.zero_le _,⟨by simp [ownL],.inl ⟨rfl,rfl⟩⟩,K0,X0⟩
 case round =>
  obtain ⟨k,rfl,hk,HO,HB,HX⟩:=hrel
  have c1:wr.cell? ⟨w.heap.size,1,none⟩=some (.int .i64 x.col):=cellB HX.out
  have c3:wr.cell? ⟨w.heap.size,3,none⟩=some (.int .i64 x.cols):=cellB HX.out
  by_cases hlt:k < l.length
  ·obtain ⟨b,off,cap',e',hc1,hc2,hbl,hy⟩:=(H.out.kept HB.out).get hlt
   simp only [Value.slice.injEq,true_and] at e'
   obtain ⟨rfl,rfl⟩:=e'
   unfold maxLen at hc2
   have KR:=Hd (HR.out k (by omega) wr)
   have hol:=ownL_len l (inCell x) k
   cases hin:inCell x k with
   | false =>
    have HL:=Hd (ownL_no (l:=l) hin)
    have hin':amongB (k:Int) x.col x.cols=false:=hin
    rw [hin'] at KR
    clear hin hin'
    generalize l.getD k 0=y at hy
    go_wp2_with fail
    refine KR.out.mono ?_
    rintro e w1 ⟨rfl,rfl⟩
    go_wp2
    go_roundw
    case rel=>exact ⟨k+1,by go_num,by omega,by rw [HL.out];exact HO,HB,HX⟩
    case measure=>simp [intOf];omega
   | true =>
    have HL:=Hd (ownL_yes (l:=l) hin)
    have hin':amongB (k:Int) x.col x.cols=true:=hin
    rw [hin'] at KR
    clear hin hin'
    generalize l.getD k 0=y at hy HL
    generalize ownL l (inCell x) k=xs at HO HL hol
    go_wp2_with fail
    refine KR.out.mono ?_
    rintro e w1 ⟨rfl,rfl⟩
    have hO4:=HO.out
    have hsz:w.heap.size < w1.heap.size:=(bL HX.out)
    go_wp2_with (at_builtin;refine wpList_append_own _ rfl _ _ 30 rfl (w.heap.size+1) 3 i0 (.int .i64 0) 1 8 Tryz.underlying30 hi hz0 hz1 hz2 rfl (by decide) _ _ _ rfl (hO4.alloc _) ⟨w1.heap.size,0,none⟩ 1 1 [.int .i64 y] rfl rfl ?c1 ?c2 ?c3 ?c4 ?c5 ?_)
    case c1 =>
     intro i u hi
     match i,hi with
     | 0,hi=>simp at hi;subst hi;simp [Addr.add]
    case c2=>intro u hu;simp at hu;subst hu;rfl
    case c3=>unfold maxLen;omega
    case c4=>omega
    case c5=>simp;omega
    intro v' w5 hown' hgrow' _
    obtain ⟨hB5,hX5⟩:=app_keeps (Nat.le_succ _) hO4 HB.out hgrow'
    have HB5:=Hd hB5
    have HX5:=Hd ((hX5 w.heap.size (Nat.lt_succ_self _) (bL HX.out)).trans HX.out)
    have HO5:Hid (w5.ownsRow (w.heap.size+1) 3 1 v' (xs ++ [y]).length ((xs ++ [y]).map (Value.int .i64))):=by rw [List.length_append,List.map_append];exact hown'
    obtain ⟨g',cap'',rfl⟩:=Joins.ownsRow_form hown' (by omega)
    clear hown' hgrow' hO4 hB5 hX5 HO HB HX
    go_wp2
    go_roundw
    case rel=>exact ⟨k+1,by go_num,by omega,by rw [HL.out];exact HO5,HB5,HX5⟩
    case measure=>simp [intOf];omega
  ·obtain rfl:k=l.length:=by omega
   have hI:=(RowI.of_owns HO.out).at
   obtain ⟨aa,cc,rfl,_⟩:=hI.form
   have KA:=Hd (implacrossAll _ _ gap wr hI)
   have HV:Hid (cellV l gap x=acrV (ownL l (inCell x) l.length) gap):=rfl
   clear hI
   go_wp2_with fail
   refine KA.out.mono ?_
   rintro e w1 ⟨rfl,rfl⟩
   go_wp2
   go_ret
   exact ⟨rfl,HB.out⟩
def sd (ps:List (Int × Int)) (q:Int):Int × Int:=if inB q 0 (ps.length - 1)=true then ps.getD q.toNat (0,0) else (0,0)
theorem sd_no {ps:List (Int × Int)} {q:Int} (h:inB q 0 (ps.length - 1)=false):sd ps q=(0,0):=by unfold sd;rw [if_neg (by rw [h];simp)]
theorem sd_yes {ps:List (Int × Int)} {k:Nat} (h:k < ps.length):sd ps k=ps.getD k (0,0):=by unfold sd;rw [if_pos (inB_true (by omega) (by omega)),Int.toNat_natCast]
def sdT (t:T) (q:Int):Int × Int:=if tblB t=true then sd t.cols q else (0,0)
def wishOf (s:ByteArray):Nat:=if txtOkB s=true then s.size else 0
theorem wishOf_le (s:ByteArray):wishOf s≤30:=by
 unfold wishOf
 split
 ·rename_i h
  exact ((txtOkB_iff s).1 h).1
 ·omega
def selN (P:Nat→Bool) (n:Nat):List Nat:=(List.range n).filter P
def selL (l:List Int) (P:Nat→Bool) (n:Nat):List Int:=(selN P n).map (fun i=>l.getD i 0)
theorem selL_len (l:List Int) (P:Nat→Bool) (n:Nat):(selL l P n).length=(selN P n).length:=by simp [selL]
theorem selN_succ (P:Nat→Bool) (n:Nat):selN P (n+1)=selN P n ++ if P n=true then [n] else []:=by
 unfold selN
 rw [List.range_succ,List.filter_append]
 congr 1
 by_cases h:P n=true
 ·simp [h]
 ·simp [h]
theorem selN_get {P:Nat→Bool} {n p:Nat} (h:p < (selN P n).length):(selN P n)[p] < n∧P (selN P n)[p]=true:=by
 have:=List.getElem_mem h
 unfold selN at this
 rw [List.mem_filter,List.mem_range] at this
 exact this
theorem selN_mono {P:Nat→Bool} {n p q:Nat} (hp:p < (selN P n).length) (hq:q < (selN P n).length) (h:p < q):(selN P n)[p] < (selN P n)[q] :=
 List.pairwise_iff_getElem.1 (List.Pairwise.filter P List.pairwise_lt_range) p q hp hq h
theorem selL_get {l:List Int} {P:Nat→Bool} {n p:Nat} (h:p < (selN P n).length):(selL l P n).getD p 0=l.getD (selN P n)[p] 0:=by
 simp [selL,List.getD,h]
theorem selL_sum {l:List Int} {P:Nat→Bool}:∀ n,n≤l.length→(∀ i,i < n→P i=false→l.getD i 0=0)→(selL l P n).sum=sumTo l n
 | 0,_,_=>by simp [selL,selN,sumTo]
 | n+1,hn,hz=>by
  have ih:=selL_sum n (by omega) (fun i hi=>hz i (by omega))
  have e:selL l P (n+1)=selL l P n ++ if P n=true then [l.getD n 0] else []:=by
   unfold selL
   rw [selN_succ,List.map_append]
   congr 1
   split <;> rfl
  rw [e,List.sum_append,ih,sumTo_succ (by omega)]
  cases hP:P n with
  | true=>simp
  | false=>rw [hz n (by omega) hP];simp
theorem sum_lt:∀ {a b:List Int},a.length=b.length→(∀ i,i < a.length→a.getD i 0≤b.getD i 0)→∀ p,p < a.length→a.getD p 0 < b.getD p 0→a.sum < b.sum
 | [],_,_,_,p,hp,_=>absurd hp (Nat.not_lt_zero _)
 | _ :: _,[],h,_,_,_,_=>absurd h (by simp)
 | x :: a,y :: b,h,hle,p,hp,hlt=>by
  have hab:a.length=b.length:=by simpa using h
  have h0:x≤y:=by have:=hle 0 (by simp);simpa using this
  have hr:∀ i,i < a.length→a.getD i 0≤b.getD i 0:=fun i hi=>by have:=hle (i+1) (by simpa using hi);simpa using this
  rw [List.sum_cons,List.sum_cons]
  cases p with
  | zero =>
   have h1:x < y:=by simpa using hlt
   have h2:a.sum≤b.sum:=by
    clear hlt hp hle h h0 h1
    induction a generalizing b with
    | nil=>cases b with
     | nil=>exact Int.le_refl _
     | cons _ _=>simp at hab
    | cons u a ih=>cases b with
     | nil=>simp at hab
     | cons v b =>
      have h3:u≤v:=by have:=hr 0 (by simp);simpa using this
      have:=ih (b:=b) (by simpa using hab) (fun i hi=>by have:=hr (i+1) (by simpa using hi);simpa using this)
      rw [List.sum_cons,List.sum_cons]
      omega
   omega
  | succ p =>
   have:=sum_lt hab hr p (by simpa using hp) (by simpa using hlt)
   omega
theorem other_way {a b:List Int} (hl:a.length=b.length) (hs:a.sum=b.sum) {p:Nat} (hp:p < a.length) (h:a.getD p 0 < b.getD p 0):∃ q,q < a.length∧b.getD q 0 < a.getD q 0:=by
 apply Classical.byContradiction
 intro hn
 have:=sum_lt hl (fun i hi=>Int.not_lt.1 (fun hlt=>hn ⟨i,hi,hlt⟩)) p hp h
 omega
theorem wts_some {l:List Int} (h:l.sum ≠ 0):wts l=l:=by unfold wts;rw [if_neg h]
theorem share_sel {t:Int} {l:List Int} {P:Nat→Bool} (hok:shrOkB t l=true) (hz:∀ i,i < l.length→P i=false→l.getD i 0=0) (hs:l.sum ≠ 0) :
  shrOkB t (selL l P l.length)=true∧shareL t (selL l P l.length)=selL (shareL t l) P l.length:=by
 obtain ⟨ht,hlen,hw⟩:=shrOk_parts hok
 have hsum:(selL l P l.length).sum=l.sum:=by rw [selL_sum l.length (Nat.le_refl _) hz,sumTo_all]
 have hs':(selL l P l.length).sum ≠ 0:=by rw [hsum];exact hs
 have hnl:(selN P l.length).length≤l.length:=by unfold selN;have:=List.length_filter_le P (List.range l.length);simpa using this
 have hok':shrOkB t (selL l P l.length)=true:=by
  simp only [shrOkB,Bool.and_eq_true,decide_eq_true_eq,List.all_eq_true]
  refine ⟨⟨by simp only [wtB,decide_eq_true_eq];exact ht,by rw [selL_len];omega⟩,fun x hx=>?_⟩
  unfold selL at hx
  obtain ⟨i,hi,rfl⟩:=List.mem_map.1 hx
  unfold selN at hi
  have hil:=List.mem_range.1 (List.mem_filter.1 hi).1
  rw [show l.getD i 0=l[i] by simp [List.getD,hil]]
  exact List.all_eq_true.1 hw _ (List.getElem_mem hil)
 refine ⟨hok',?_⟩
 have hpos:0 < l.length:=by
  cases l with
  | nil=>simp at hs
  | cons _ _=>simp
 have hpos':0 < (selL l P l.length).length:=by
  cases h:selL l P l.length with
  | nil=>rw [h] at hs';simp at hs'
  | cons _ _=>simp
 have hL:=shareL_len hok
 have hL':=shareL_len hok'
 have hsh:(selL (shareL t l) P l.length).sum=(shareL t l).sum:=by
  have:=selL_sum (l:=shareL t l) (P:=P) l.length (by omega) (fun i hi hP=>share_zero hok hs hi (hz i hi hP))
  rw [this,← hL,sumTo_all]
 have hss:(shareL t (selL l P l.length)).sum=(selL (shareL t l) P l.length).sum:=by rw [hsh,share_sum hok hpos,share_sum hok' hpos']
 have hll:(shareL t (selL l P l.length)).length=(selL (shareL t l) P l.length).length:=by rw [hL',selL_len,selL_len]
 have hw1:=wts_some hs
 have hw2:=wts_some hs'
 -- the two orders are one
 have hord:∀ p q,(hp:p < (selN P l.length).length)→(hq:q < (selN P l.length).length)→tB (cl t (selL l P l.length) p) (cl t (selL l P l.length) q)=tB (cl t l (selN P l.length)[p]) (cl t l (selN P l.length)[q]):=by
  intro p q hp hq
  rw [Bool.eq_iff_iff,tB_iff,tB_iff]
  simp only [cl,hsum,selL_get hp,selL_get hq]
  have hm:((p:Int) < (q:Int)) ↔ (((selN P l.length)[p]:Nat):Int) < (((selN P l.length)[q]:Nat):Int):=by
   constructor
   ·intro h;have:=selN_mono hp hq (by omega);omega
   ·intro h
    rcases Nat.lt_trichotomy p q with h1 | h1 | h1
    ·omega
    ·subst h1;omega
    ·have:=selN_mono hq hp h1;omega
  have he:((p:Int)=(q:Int)) ↔ (((selN P l.length)[p]:Nat):Int)=(((selN P l.length)[q]:Nat):Int):=by
   constructor
   ·intro h;have:p=q:=by omega
    subst this;rfl
   ·intro h
    rcases Nat.lt_trichotomy p q with h1 | h1 | h1
    ·have:=selN_mono hp hq h1;omega
    ·omega
    ·have:=selN_mono hq hp h1;omega
  rw [hm,he]
 have hA:∀ p,(hp:p < (selN P l.length).length)→(shareL t (selL l P l.length)).getD p 0=t * l.getD (selN P l.length)[p] 0 / l.sum+if cl t (selL l P l.length) p ∈ (srtL t (selL l P l.length)).take (leftN t (selL l P l.length)) then 1 else 0:=by
  intro p hp
  rw [share_get hok' (by rw [selL_len];exact hp),hw2,hsum,selL_get hp]
 have hB:∀ p,(hp:p < (selN P l.length).length)→(selL (shareL t l) P l.length).getD p 0=t * l.getD (selN P l.length)[p] 0 / l.sum+if cl t l (selN P l.length)[p] ∈ (srtL t l).take (leftN t l) then 1 else 0:=by
  intro p hp
  rw [selL_get hp,share_get hok (selN_get hp).1,hw1]
 -- one that got more here and one that got more there cannot both be
 have hno:∀ p q,(hp:p < (selN P l.length).length)→(hq:q < (selN P l.length).length)→(shareL t (selL l P l.length)).getD p 0 < (selL (shareL t l) P l.length).getD p 0→(selL (shareL t l) P l.length).getD q 0 < (shareL t (selL l P l.length)).getD q 0→False:=by
  intro p q hp hq h1 h2
  rw [hA p hp,hB p hp] at h1
  rw [hA q hq,hB q hq] at h2
  have hpl:p < (selL l P l.length).length:=by rw [selL_len];exact hp
  have hql:q < (selL l P l.length).length:=by rw [selL_len];exact hq
  by_cases a1:cl t (selL l P l.length) p ∈ (srtL t (selL l P l.length)).take (leftN t (selL l P l.length))
  ·rw [if_pos a1] at h1;split at h1 <;> omega
  by_cases a2:cl t l (selN P l.length)[q] ∈ (srtL t l).take (leftN t l)
  ·rw [if_pos a2] at h2;split at h2 <;> omega
  by_cases b1:cl t l (selN P l.length)[p] ∈ (srtL t l).take (leftN t l)
  case neg=>rw [if_neg a1,if_neg b1] at h1;omega
  by_cases b2:cl t (selL l P l.length) q ∈ (srtL t (selL l P l.length)).take (leftN t (selL l P l.length))
  case neg=>rw [if_neg a2,if_neg b2] at h2;omega
  have hpq:p ≠ q:=fun e=>by subst e;exact a1 b2
  have htot:tB (cl t l (selN P l.length)[p]) (cl t l (selN P l.length)[q])=true∨tB (cl t l (selN P l.length)[q]) (cl t l (selN P l.length)[p])=true:=by
   rw [tB_iff,tB_iff]
   simp only [cl]
   have:(selN P l.length)[p] ≠ (selN P l.length)[q]:=by
    rcases Nat.lt_or_gt_of_ne hpq with h | h
    ·have:=selN_mono hp hq h;omega
    ·have:=selN_mono hq hp h;omega
   omega
  rcases htot with h | h
  ·rw [← hord p q hp hq] at h
   exact a1 (ahead_got hpl h b2)
  ·exact a2 (ahead_got (selN_get hq).1 h b1)
 apply List.ext_getElem hll
 intro p h1 h2
 have hp:p < (selN P l.length).length:=by rw [hL',selL_len] at h1;exact h1
 have e1:(shareL t (selL l P l.length))[p]=(shareL t (selL l P l.length)).getD p 0:=by simp [List.getD,h1]
 have e2:(selL (shareL t l) P l.length)[p]=(selL (shareL t l) P l.length).getD p 0:=by simp [List.getD,h2]
 rw [e1,e2]
 apply Classical.byContradiction
 intro hne
 rcases Int.lt_or_gt_of_ne hne with h | h
 ·obtain ⟨q,hq,hlt⟩:=other_way hll hss h1 h
  exact hno p q hp (by rw [hL',selL_len] at hq;exact hq) h hlt
 ·obtain ⟨q,hq,hlt⟩:=other_way hll.symm hss.symm h2 h
  have hq':q < (selN P l.length).length:=by rw [selL_len] at hq;exact hq
  exact hno q p hq' hp hlt h
def upToL (t:Int) (l:List Int):List Int:=if shrOkB t l=true then (if l.sum≤t then l else shareL t l) else []
def upToN (t:Int) (l:List Int):Int:=if shrOkB t l=true then (if l.sum≤t then t - l.sum else 0) else 0
theorem upTo_all {t:Int} {l:List Int} (h:shrOkB t l=true) (hs:l.sum≤t):upToL t l=l∧upToN t l=t - l.sum:=by simp [upToL,upToN,h,hs]
theorem upTo_share {t:Int} {l:List Int} (h:shrOkB t l=true) (hs:¬ l.sum≤t):upToL t l=shareL t l∧upToN t l=0:=by simp [upToL,upToN,h,hs]
theorem retT {x:Value} {a b:Int} (h:a=b):Ending.returned (.tuple #[x,.int .i64 a])=.returned (.tuple #[x,.int .i64 b]):=by rw [h]
theorem sel_ok {t:Int} {l:List Int} {P:Nat→Bool} (hok:shrOkB t l=true):shrOkB t (selL l P l.length)=true:=by
 obtain ⟨ht,hlen,hw⟩:=shrOk_parts hok
 have hnl:(selN P l.length).length≤l.length:=by unfold selN;have:=List.length_filter_le P (List.range l.length);simpa using this
 simp only [shrOkB,Bool.and_eq_true,decide_eq_true_eq,List.all_eq_true]
 refine ⟨⟨by simp only [wtB,decide_eq_true_eq];exact ht,by rw [selL_len];omega⟩,fun x hx=>?_⟩
 unfold selL at hx
 obtain ⟨i,hi,rfl⟩:=List.mem_map.1 hx
 unfold selN at hi
 have hil:=List.mem_range.1 (List.mem_filter.1 hi).1
 rw [show l.getD i 0=l[i] by simp [List.getD,hil]]
 exact List.all_eq_true.1 hw _ (List.getElem_mem hil)
theorem upTo_sel {t:Int} {l:List Int} {P:Nat→Bool} (hok:shrOkB t l=true) (hz:∀ i,i < l.length→P i=false→l.getD i 0=0) :
  upToL t (selL l P l.length)=selL (upToL t l) P l.length∧upToN t (selL l P l.length)=upToN t l:=by
 have hsum:(selL l P l.length).sum=l.sum:=by rw [selL_sum l.length (Nat.le_refl _) hz,sumTo_all]
 have hok':=sel_ok (P:=P) hok
 by_cases hs:l.sum≤t
 ·rw [(upTo_all hok hs).1,(upTo_all hok hs).2,(upTo_all hok' (by rw [hsum];exact hs)).1,(upTo_all hok' (by rw [hsum];exact hs)).2,hsum]
  exact ⟨rfl,rfl⟩
 ·have ht:=(shrOk_parts hok).1.1
  rw [(upTo_share hok hs).1,(upTo_share hok hs).2,(upTo_share hok' (by rw [hsum];exact hs)).1,(upTo_share hok' (by rw [hsum];exact hs)).2]
  exact ⟨(share_sel hok hz (by omega)).2,rfl⟩
def oneL (P:Nat→Bool) (n:Nat):List Int:=(List.range n).map (fun i=>if P i=true then 1 else 0)
theorem oneL_len (P:Nat→Bool) (n:Nat):(oneL P n).length=n:=by simp [oneL]
theorem oneL_get {P:Nat→Bool} {n i:Nat} (h:i < n):(oneL P n).getD i 0=if P i=true then 1 else 0:=by simp [oneL,List.getD,h]
theorem oneL_ok {t:Int} (P:Nat→Bool) {n:Nat} (ht:0≤t∧t≤100000) (hn:n≤100):shrOkB t (oneL P n)=true:=by
 simp only [shrOkB,Bool.and_eq_true,decide_eq_true_eq,List.all_eq_true]
 refine ⟨⟨by simp only [wtB,decide_eq_true_eq];exact ht,by rw [oneL_len];exact hn⟩,fun x hx=>?_⟩
 unfold oneL at hx
 obtain ⟨i,_,rfl⟩:=List.mem_map.1 hx
 simp only [wtB,decide_eq_true_eq]
 split <;> omega
theorem sel_one (P:Nat→Bool) (n:Nat):selL (oneL P n) P n=List.replicate (selN P n).length 1:=by
 apply List.ext_getElem (by simp [selL])
 intro p h1 h2
 have hp:p < (selN P n).length:=by simpa [selL] using h1
 have hg:=selN_get hp
 have e:(selL (oneL P n) P n)[p]=(selL (oneL P n) P n).getD p 0:=by simp [List.getD,h1]
 rw [e,selL_get hp,oneL_get hg.1,if_pos hg.2]
 simp
theorem wts_zero (m:Nat):wts (List.replicate m (0:Int))=List.replicate m 1:=by
 unfold wts
 rw [if_pos (by induction m with
  | zero=>rfl
  | succ m ih=>rw [List.replicate_succ,List.sum_cons,ih];rfl)]
 simp
theorem wts_one (m:Nat):wts (List.replicate m (1:Int))=List.replicate m 1:=by
 unfold wts
 split
 ·simp
 ·rfl
theorem share_alike_sel {t:Int} (P:Nat→Bool) {n:Nat} (ht:0≤t∧t≤100000) (hn:n≤100) (h0:0 < (selN P n).length) :
  shareL t (List.replicate (selN P n).length 0)=selL (shareL t (oneL P n)) P n:=by
 have hok:=oneL_ok P (n:=n) ht hn
 have hz:∀ i,i < (oneL P n).length→P i=false→(oneL P n).getD i 0=0:=fun i hi hP=>by
  rw [oneL_len] at hi
  rw [oneL_get hi,if_neg (by rw [hP];simp)]
 have hnl:(selN P n).length≤n:=by unfold selN;have:=List.length_filter_le P (List.range n);simpa using this
 have hsum:(oneL P n).sum=((selN P n).length:Int):=by
  have:=selL_sum (l:=oneL P n) (P:=P) (oneL P n).length (Nat.le_refl _) hz
  rw [sumTo_all,oneL_len,sel_one,sum_ones] at this
  exact this.symm
 have h1:=(share_sel hok hz (by rw [hsum];omega)).2
 rw [oneL_len,sel_one] at h1
 rw [← h1]
 have hok0:shrOkB t (List.replicate (selN P n).length 0)=true:=by
  simp only [shrOkB,Bool.and_eq_true,decide_eq_true_eq,List.all_eq_true]
  exact ⟨⟨by simp only [wtB,decide_eq_true_eq];exact ht,by simp;omega⟩,fun x hx=>by rw [List.eq_of_mem_replicate hx];rfl⟩
 have hok1:shrOkB t (List.replicate (selN P n).length 1)=true:=by
  simp only [shrOkB,Bool.and_eq_true,decide_eq_true_eq,List.all_eq_true]
  exact ⟨⟨by simp only [wtB,decide_eq_true_eq];exact ht,by simp;omega⟩,fun x hx=>by rw [List.eq_of_mem_replicate hx];rfl⟩
 rw [shareL_some hok0 (by rw [← List.length_pos_iff];simpa using h0),shareL_some hok1 (by rw [← List.length_pos_iff];simpa using h0),wts_zero,wts_one]
def addL (a b:List Int):List Int:=List.zipWith (·+·) a b
def giveTo (l:List Int) (js:List Nat) (g:List Int):Nat→List Int
 | 0=>l
 | k+1=>(giveTo l js g k).set (js.getD k 0) ((giveTo l js g k).getD (js.getD k 0) 0+g.getD k 0)
theorem giveTo_len (l:List Int) (js:List Nat) (g:List Int):∀ k,(giveTo l js g k).length=l.length
 | 0=>rfl
 | k+1=>by rw [giveTo,List.length_set];exact giveTo_len l js g k
theorem giveTo_out (l:List Int) (js:List Nat) (g:List Int) {i:Nat}:∀ k,(∀ p,p < k→js.getD p 0 ≠ i)→(giveTo l js g k).getD i 0=l.getD i 0
 | 0,_=>rfl
 | k+1,h=>by
  rw [giveTo]
  simp only [List.getD,List.getElem?_set_ne (show js[k]?.getD 0 ≠ i from h k (by omega))]
  exact giveTo_out l js g k (fun p hp=>h p (by omega))
theorem giveTo_in {l:List Int} {P:Nat→Bool} {n:Nat} (hn:n≤l.length) (g:List Int) {p:Nat}:∀ k,k≤(selN P n).length→p < k→(giveTo l (selN P n) g k).getD ((selN P n).getD p 0) 0=l.getD ((selN P n).getD p 0) 0+g.getD p 0
 | k+1,hk,hp=>by
  have hkl:k < (selN P n).length:=by omega
  have ek:(selN P n).getD k 0=(selN P n)[k]:=by simp [List.getD,hkl]
  have hpl:p < (selN P n).length:=by omega
  have ep:(selN P n).getD p 0=(selN P n)[p]:=by simp [List.getD,hpl]
  rw [giveTo]
  by_cases e:p=k
  ·subst e
   have hlt:(selN P n).getD p 0 < (giveTo l (selN P n) g p).length:=by rw [giveTo_len,ep];have:=(selN_get hpl).1;omega
   have ho:=giveTo_out l (selN P n) g (i:=(selN P n).getD p 0) p (fun q hq=>by
    have hql:q < (selN P n).length:=by omega
    have:=selN_mono hql hpl hq
    rw [ep,show (selN P n).getD q 0=(selN P n)[q] by simp [List.getD,hql]]
    omega)
   rw [ho]
   generalize (selN P n).getD p 0=j at hlt
   simp only [List.getD,List.getElem?_set_self hlt,Option.getD_some]
  ·have hne:(selN P n).getD k 0 ≠ (selN P n).getD p 0:=by
    have:=selN_mono hpl hkl (by omega)
    rw [ek,ep]
    omega
   have ih:=giveTo_in (P:=P) hn g (p:=p) k (by omega) (by omega)
   rw [← ih]
   generalize (selN P n).getD k 0=j at hne
   generalize (selN P n).getD p 0=i at hne
   simp only [List.getD,List.getElem?_set_ne hne]
theorem give_all {l more:List Int} {P:Nat→Bool} (hl:more.length=l.length) (hz:∀ i,i < l.length→P i=false→more.getD i 0=0):giveTo l (selN P l.length) (selL more P l.length) (selN P l.length).length=addL l more:=by
 have hlen:(giveTo l (selN P l.length) (selL more P l.length) (selN P l.length).length).length=(addL l more).length:=by rw [giveTo_len,addL,List.length_zipWith,hl];omega
 apply List.ext_getElem hlen
 intro i h1 h2
 have hi:i < l.length:=by rw [giveTo_len] at h1;exact h1
 have hm:i < more.length:=by omega
 have e1:(giveTo l (selN P l.length) (selL more P l.length) (selN P l.length).length)[i]=(giveTo l (selN P l.length) (selL more P l.length) (selN P l.length).length).getD i 0:=by simp [List.getD,h1]
 have e2:(addL l more)[i]=l.getD i 0+more.getD i 0:=by simp [addL,List.getD,hi,hm]
 rw [e1,e2]
 cases hP:P i with
 | false =>
  rw [hz i hi hP,giveTo_out l _ _ _ (fun p hp e=>by
   have:=(selN_get hp).2
   rw [show (selN P l.length).getD p 0=(selN P l.length)[p] by simp [List.getD,hp]] at e
   rw [e,hP] at this
   cases this)]
  omega
 | true =>
  have hmem:i ∈ selN P l.length:=by unfold selN;rw [List.mem_filter];exact ⟨List.mem_range.2 hi,hP⟩
  obtain ⟨p,hp,hpe⟩:=List.getElem_of_mem hmem
  have hd:(selN P l.length).getD p 0=i:=by simp [List.getD,hp,hpe]
  have:=giveTo_in (l:=l) (P:=P) (n:=l.length) (Nat.le_refl _) (selL more P l.length) (p:=p) (selN P l.length).length (Nat.le_refl _) hp
  rw [hd,selL_get hp,hpe] at this
  exact this
theorem own_span {l:List Int} {x:GC} {c m:Nat} (hc:x.col=c) (hm:x.cols=m):∀ k,k≤l.length→(ownL l (inCell x) k).length=min m (k - c)∧(ownL l (inCell x) k).sum=sumTo l (min k (c+m)) - sumTo l (min k c)
 | 0,_=>by simp [ownL,sumTo]
 | k+1,hk=>by
  obtain ⟨h1,h2⟩:=own_span (l:=l) hc hm k (by omega)
  by_cases hin:c≤k∧k < c+m
  ·have e:inCell x k=true:=by simp [inCell,amongB,hc,hm];omega
   rw [ownL_yes e,List.length_append,List.sum_append,h1,h2]
   have e1:min (k+1) (c+m)=k+1:=by omega
   have e2:min k (c+m)=k:=by omega
   have e3:min (k+1) c=c:=by omega
   have e4:min k c=c:=by omega
   rw [e1,e2,e3,e4,sumTo_succ (by omega)]
   simp
   omega
  ·have e:inCell x k=false:=by simp [inCell,amongB,hc,hm];omega
   rw [ownL_no e,h1,h2]
   have e1:min (k+1) (c+m)=min k (c+m)∨min (k+1) c=k+1:=by omega
   by_cases hkc:k < c
   ·have a1:min (k+1) (c+m)=k+1:=by omega
    have a2:min k (c+m)=k:=by omega
    have a3:min (k+1) c=k+1:=by omega
    have a4:min k c=k:=by omega
    rw [a1,a2,a3,a4]
    omega
   ·have a1:min (k+1) (c+m)=min k (c+m):=by omega
    have a3:min (k+1) c=min k c:=by omega
    rw [a1,a3]
    omega
def hgtG (x:GC):GC:=⟨0,x.row,0,x.rows,0⟩
theorem hgtG_ok {x:GC} (h:GOk x):GOk (hgtG x):=by
 obtain ⟨a,b,c,d,e⟩:=h
 exact ⟨⟨by show (-9223372036854775808:Int)≤0;omega,by show (0:Int) < 9223372036854775808;omega⟩,a,⟨by show (-9223372036854775808:Int)≤0;omega,by show (0:Int) < 9223372036854775808;omega⟩,c,⟨by show (-9223372036854775808:Int)≤0;omega,by show (0:Int) < 9223372036854775808;omega⟩⟩
def highV (l:List Int) (x:GC):Int:=cellV l 0 (hgtG x)
set_option maxRecDepth 100000 in
set_option maxHeartbeats 1000000 in
theorem implHgtCell (v:Value) (l:List Int) (hl:l.length≤1048576) (x:GC) (hx:GOk x) (w:World) (h:IntsAt w v l) :
  Calls Tryz.prog 50 #[v,.agg #[.int .i64 x.row,.int .i64 x.col,.int .i64 x.rows,.int .i64 x.cols,.int .i64 x.ins]] w fun e w'=>e=.returned (.int .i64 (highV l x))∧Below w.heap.size w w':=by
 obtain ⟨a,cap,rfl,hlen⟩:=h.form
 have KC:=Hd (fun W=>implWidCell (.slice a l.length cap) l hl 0 (hgtG x) (hgtG_ok hx) W)
 have K0:=k_alloc (Below.refl w.heap.size w) (.cells #[.int .i64 x.row,.int .i64 x.col,.int .i64 x.rows,.int .i64 x.cols,.int .i64 x.ins] 78)
 have HK:=Hd K0
 have H:=Hd (h.kept K0)
 clear h hx K0
 go_enter Tryz.func50,Tryz.ntmps50
 go_wp2_with fail
 refine (KC.out _ H.out).mono ?_
 rintro e w1 ⟨rfl,hb1⟩
 have HK1:=Hd (k_trans HK.out hb1)
 have HV:Hid (cellV l 0 (hgtG x)=highV l x):=rfl
 rw [HV.out]
 clear hb1 H HK
 go_wp2
 go_ret
 exact ⟨rfl,HK1.out⟩
set_option maxRecDepth 100000 in
set_option maxHeartbeats 1000000 in
theorem implsaidOf (v:Value) (ps:List (Int × Int)) (q:Int) (w:World) {z:Nat} (h:ColsAt w z v ps) :
  Calls Tryz.prog 98 #[v,.int .i64 q] w fun e w'=>e=.returned (.agg #[.int .i64 (sd ps q).1,.int .i64 (sd ps q).2])∧Below w.heap.size w w':=by
 obtain ⟨a,cap,rfl,hlen⟩:=At.form h
 have HI:=Hd (within_any q 0 ((ps.length:Int) - 1))
 unfold maxLen at hlen
 cases hin:inB q 0 ((ps.length:Int) - 1) with
 | false =>
  rw [hin] at HI
  rw [sd_no hin]
  clear hin h
  go_enter Tryz.func98,Tryz.ntmps98
  go_wp2_with fail
  refine (HI.out _).mono ?_
  rintro e w1 ⟨rfl,rfl⟩
  go_wp2
  exact bodyPost_ret (v:=.agg #[.int .i64 0,.int .i64 0]) (by simp [results,Tryz.results98,go_sem]) rfl ⟨rfl,by repeat (first | exact Below.refl _ _ | apply k_alloc)⟩
 | true =>
  rw [hin] at HI
  have hk:0≤q∧q≤(ps.length:Int) - 1:=by simpa [inB] using hin
  clear hin
  obtain ⟨k,rfl⟩:=Int.eq_ofNat_of_zero_le hk.1
  have hkl:k < ps.length:=by omega
  rw [sd_yes hkl]
  obtain ⟨b,off,cap',e',hc1,hc2,hbl,hx0,hx1⟩:=At.get h hkl
  simp only [Value.slice.injEq,true_and] at e'
  obtain ⟨rfl,rfl⟩:=e'
  unfold maxLen at hc2
  generalize ps.getD k (0,0)=p at hx0 hx1 ⊢
  clear h
  go_enter Tryz.func98,Tryz.ntmps98
  go_wp2_with fail
  refine (HI.out _).mono ?_
  rintro e w1 ⟨rfl,rfl⟩
  go_wp2
  exact bodyPost_ret (v:=.agg #[.int .i64 p.1,.int .i64 p.2]) (by simp [results,Tryz.results98,go_sem]) rfl ⟨rfl,by repeat (first | exact Below.refl _ _ | apply k_alloc)⟩
theorem field0 (a b:Value) (W:World):(Instr.field 130 (.agg #[a,b]) 0).run Tryz.prog W=.ok a W:=by
 kernel_rfl
theorem field1 (a b:Value) (W:World):(Instr.field 130 (.agg #[a,b]) 1).run Tryz.prog W=.ok b W:=by
 kernel_rfl
end Go.Proofs.YtojogjlblgcioanGreat
namespace Go.Proofs.YtojogjlblgcioanGreat
open Go.RowKit
section
variable {P:Program} {ops:Array Oper} {C:World→Prop}
def succB (ops:Array Oper) (z:Nat):Bool:=(List.range z).all fun i=>(List.range (z+1)).any fun j=>decide (i < j) && edgeB ops j i
theorem all_ahead {z:Nat} {L:Nat→Bool} (hs:succB ops z=true) (hc:Closed ops L) {o:Oper} (ho:ops[z]?=some o) (ha:∀ e ∈ o.after,Region.binds .any e=true→L e.on=true):∀ n i,z - i≤n→i < z→L i=true
 | 0,i,h,hi=>by omega
 | n+1,i,h,hi=>by
  have h1:=List.all_eq_true.1 hs i (List.mem_range.2 hi)
  obtain ⟨j,hj,h2⟩:=List.any_eq_true.1 h1
  have hjz:=List.mem_range.1 hj
  rw [Bool.and_eq_true] at h2
  obtain ⟨h3,h4⟩:=h2
  have h3:=of_decide_eq_true h3
  by_cases e:j=z
  ·subst e
   unfold edgeB at h4
   rw [ho] at h4
   simp only [Option.map_some,Option.getD_some,List.any_eq_true,Bool.and_eq_true,beq_iff_eq] at h4
   obtain ⟨e,he1,he2,he3⟩:=h4
   have:=ha e (by simpa using he1) he2
   rwa [he3] at this
  ·have hLj:=all_ahead hs hc ho ha n j (by omega) (by omega)
   cases hLi:L i with
   | true=>rfl
   | false=>rw [hc j i h4 hLi] at hLj;cases hLj
theorem closed_set {listed:Array Bool} {j:Nat} (h:Closed ops (fun k=>listed.getD k false)) (hj:j ∈ Region.ready .any ops listed):Closed ops (fun k=>(listed.setIfInBounds j true).getD k false):=by
 obtain ⟨h0,o,ho,ha⟩:=mem_ready.1 hj
 have hlt:j < listed.size:=by
  rcases Nat.lt_or_ge j listed.size with h' | h'
  ·exact h'
  ·rw [Array.getD_eq_getD_getElem?,Array.getElem?_eq_none h'] at h0
   cases h0
 rw [listed_set hlt]
 exact h.next ho ha
def wpAnyM (P:Program) (ops:Array Oper) (C:World→Prop) (z:Nat) (R:Act→Prop):Nat→Array Bool→Act→Prop
 | 0,_,_=>False
 | fuel+1,listed,a=>Region.ready .any ops listed ≠ []∧∀ i ∈ Region.ready .any ops listed,if i=z then (fuel=0∧Region.ready .any ops (listed.setIfInBounds z true)=[]∧R a) else qOp P ops C i (wpAnyM P ops C z R fuel (listed.setIfInBounds i true)) a
theorem wpAny_of_M {Q:Exit→Act→World→Prop} {R:Act→Prop} {z:Nat} (hR:∀ a w,C w→R a→wpOp P ops Q z (fun a' w'=>Q .normal a' w') a w):∀ (fuel:Nat) (listed:Array Bool) (a:Act) (w:World),C w→wpAnyM P ops C z R fuel listed a→wpAny P .any ops Q fuel listed a w
 | 0,_,_,_,_,h=>h.elim
 | fuel+1,listed,a,w,hw,h=>⟨fun h0=>absurd h0 h.1,fun i hi=>by
   have h2:=h.2 i hi
   by_cases hz:i=z
   ·rw [if_pos hz] at h2
    obtain ⟨h3,hr,hRa⟩:=h2
    subst h3
    subst hz
    exact wpOp_mono (fun a' w' h'=>⟨hr,h'⟩) (hR a w hw hRa)
   ·rw [if_neg hz] at h2
    exact wpOp_of_qOp hw (fun a' w' hw'=>wpAny_of_M hR fuel _ a' w' hw') h2⟩
theorem wpAnyM_first {R:Act→Prop} {z i:Nat} {oi:Oper} {v:Value} (hs:succB ops z=true) (hi:ops[i]?=some oi) (hiz:i < z) (hsel:∀ (j:Nat) (o:Oper) cs b,ops[j]?=some o→o.op ≠ .select cs b) :
  ∀ (fuel:Nat) (listed:Array Bool) (a:Act),Closed ops (fun k=>listed.getD k false) →
   (∀ j oj,ops[j]?=some oj→j ≠ i→listed.getD j true=false→(∀ e ∈ oj.after,Region.binds .any e=true→e.on ≠ i)→oi.apart ops oj=true) →
   i ∈ Region.ready .any ops listed→YieldsIn P ops C oi v a →
   wpAnyM P ops C z R fuel (listed.setIfInBounds i true) (a.put oi.dst v)→wpAnyM P ops C z R (fuel+1) listed a:=by
 intro fuel
 induction fuel with
 | zero=>intro listed a _ _ _ _ H;exact H.elim
 | succ fuel ih =>
  intro listed a hcl hfree hr hy H
  refine ⟨fun h=>(by rw [h] at hr;cases hr),fun j hj=>?_⟩
  by_cases hji:j=i
  ·rw [if_neg (by omega)];subst hji;exact hy.qOp hi H
  ·have hjz:j ≠ z:=fun e=>by
    subst e
    obtain ⟨_,o,ho,ha⟩:=mem_ready.1 hj
    have h1:=all_ahead hs hcl ho ha _ i (Nat.le_refl _) hiz
    have h0:=(mem_ready.1 hr).1
    rcases Nat.lt_or_ge i listed.size with h' | h'
    ·simp [h'] at h0 h1;rw [h0] at h1;cases h1
    ·simp [Array.getElem?_eq_none h'] at h1
   rw [if_neg hjz]
   have h1:=H.2 j (ready_mono hj hji)
   rw [if_neg hjz] at h1
   obtain ⟨hjun,oj,hoj,hall⟩:=mem_ready.1 hj
   have hnot:∀ e ∈ oj.after,Region.binds .any e=true→e.on ≠ i:=fun e he hb heq=>by
    have h1:=hall e he hb
    have h0:=(mem_ready.1 hr).1
    rw [heq] at h1
    rcases Nat.lt_or_ge i listed.size with h' | h'
    ·simp [h'] at h0 h1;rw [h0] at h1;cases h1
    ·simp [Array.getElem?_eq_none h'] at h1
   have h2:=qOp_put hoj (hfree j oj hoj hji hjun hnot) (fun cs b=>hsel i oi cs b hi) (fun cs b=>hsel j oj cs b hoj) hy h1
   have hfree':∀ k ok,ops[k]?=some ok→k ≠ i→(listed.setIfInBounds j true).getD k true=false →
     (∀ e ∈ ok.after,Region.binds .any e=true→e.on ≠ i)→oi.apart ops ok=true:=fun k ok hk hki hun hno=>by
    refine hfree k ok hk hki ?_ hno
    by_cases hjk:j=k
    ·subst hjk;exact hjun
    ·rw [getD_set_ne true hjk] at hun;exact hun
   refine qOp_mono (fun a' h3=>ih (listed.setIfInBounds j true) a' (closed_set hcl hj) hfree' (ready_mono hr (Ne.symm hji)) h3.1 ?_) h2
   rw [Array.setIfInBounds_comm _ _ hji]
   exact h3.2
theorem wpAnyM_lex {R:Act→Prop} {z:Nat} (hns:Region.noSelect ops=true) (hs:succB ops z=true):∀ (l:List Oper) (k:Nat) (listed:Array Bool) (a:Act),k+l.length=z→(∀ j,j < l.length→l[j]?=ops[k+j]?)→Closed ops (fun k=>listed.getD k false) →
  Region.lexFrom .any ops (l.length+1) k listed=true→wpQuiet P ops C R l a→wpAnyM P ops C z R (l.length+1) listed a
 | [],k,listed,a,hk,_,_,hB,h=>by
  simp only [List.length_nil,Region.lexFrom,Bool.and_eq_true] at hB
  obtain ⟨⟨hr,_⟩,he⟩:=hB
  have hk':k=z:=by simpa using hk
  subst hk'
  have hr':k ∈ Region.ready .any ops listed:=by simpa using hr
  have he':Region.ready .any ops (listed.setIfInBounds k true)=[]:=by simpa using he
  refine ⟨fun h=>(by rw [h] at hr';cases hr'),fun i hi=>?_⟩
  by_cases hik:i=k
  ·rw [if_pos hik];exact ⟨rfl,he',h⟩
  ·have:=ready_mono hi hik
   rw [he'] at this
   cases this
 | o :: l,k,listed,a,hk,hl,hcl,hB,h=>by
  have h0:ops[k]?=some o:=by simpa using (hl 0 (by simp)).symm
  simp only [List.length_cons] at hk hB ⊢
  rw [Region.lexFrom] at hB
  simp only [Bool.and_eq_true] at hB
  obtain ⟨⟨hr,hf⟩,hB'⟩:=hB
  have hr':k ∈ Region.ready .any ops listed:=by simpa using hr
  have hst:qOp P ops C k (wpQuiet P ops C R l) a:=by unfold qOp;simp only [h0];exact h
  obtain ⟨v,hy,hK⟩:=yieldsIn_of_qOp h0 hst
  exact wpAnyM_first hs h0 (by omega) (Region.noSelect_spec hns) (l.length+1) listed a hcl (Region.free_spec h0 hf) hr' hy
   (wpAnyM_lex hns hs l (k+1) _ _ (by omega) (fun j hj=>by have:=hl (j+1) (by simpa using hj);simpa [Nat.add_assoc,Nat.add_comm 1 j] using this) (closed_set hcl hr') hB' hK)
end
theorem wp_region_last {P:Program} {id:Nat} {Q:Exit→Act→World→Prop} {a:Act} {w:World} {l:List Oper} (n:Nat) {o:Oper} (hm:P.follows .mixedOrders=true) (hl:l.length=n+1) (ho:l[n]?=some o) (hB:Region.lexB .any l.toArray=true) (hs:succB l.toArray n=true)
  (h:wpQuiet P l.toArray (fun w'=>∃ p:BW w,w'=p.u) (fun a'=>∀ w',(∃ p:BW w,w'=p.u)→if Region.wanted o (yielded l.toArray a'.tmps)=true then o.wp P a' w' (fun a w=>Q .normal a w) Q else Q .normal (a'.put o.dst undef) w') (l.take n) a):(Code.region id l.toArray true).wp P Q a w:=by
 simp only [Region.lexB,Bool.and_eq_true] at hB
 have hlt:(l.take n).length=n:=by rw [List.length_take];omega
 refine wp_region_any hm (wpAny_of_M (C:=fun w'=>∃ p:BW w,w'=p.u) (z:=n) (R:=fun a'=>∀ w',(∃ p:BW w,w'=p.u)→if Region.wanted o (yielded l.toArray a'.tmps)=true then o.wp P a' w' (fun a w=>Q .normal a w) Q else Q .normal (a'.put o.dst undef) w') ?_ _ _ _ _ ⟨⟨_,k_drew (Below.refl _ _)⟩,rfl⟩ ?_)
 ·intro a' w' hw' hR
  have h1:=hR w' hw'
  unfold wpOp
  rw [show l.toArray[n]?=some o by simpa using ho]
  dsimp only
  split
  ·rename_i hw;rw [if_pos hw] at h1;exact .inl h1
  ·rename_i hw;rw [if_neg hw] at h1;exact h1
 ·have:=wpAnyM_lex (P:=P) (C:=fun w'=>∃ p:BW w,w'=p.u) hB.1 hs (l.take n) 0 (Array.replicate l.toArray.size false) a (by omega) (fun j hj=>by rw [hlt] at hj;simp [hj]) (fun j i _ _=>by
   show (Array.replicate l.toArray.size false).getD j false=false
   rw [Array.getD_eq_getD_getElem?,Array.getElem?_replicate]
   split <;> rfl) (by rw [hlt,← hl];simpa using hB.2) h
  rw [hlt,← hl] at this
  simpa using this
end Go.Proofs.YtojogjlblgcioanGreat
namespace Go.Proofs.YtojogjlblgcioanGreat
open Go.RowKit Go.Shelf Go.Lib Go.Sort
set_option maxHeartbeats 1000000 in
theorem compare_any (a b:Int) (w:World):Calls Tryz.prog 189 #[.int .i64 a,.int .i64 b] w fun e w'=>e=.returned (.int .i64 (if a < b then -1 else if b < a then 1 else 0))∧w'=w:=by
 have hn:∀ (x:Int) (W:World),Calls Tryz.prog 203 #[.int .i64 x] W fun e w'=>e=.returned (.bool false)∧w'=W:=fun x W=>by
  have hx:(x != x)=false:=by simp
  go_enter Tryz.func203,Tryz.ntmps203
  go_wp2
  go_ret
  exact ⟨rfl,rfl⟩
 by_cases h1:a < b
 ·rw [if_pos h1]
  go_enter Tryz.func189,Tryz.ntmps189
  go_wp2_with (go_at_call 203;refine (hn _ _).mono ?_;rintro e w' ⟨rfl,rfl⟩)
  go_ret
  exact ⟨rfl,rfl⟩
 ·rw [if_neg h1]
  by_cases h2:b < a
  ·rw [if_pos h2]
   go_enter Tryz.func189,Tryz.ntmps189
   go_wp2_with (go_at_call 203;refine (hn _ _).mono ?_;rintro e w' ⟨rfl,rfl⟩)
   go_ret
   exact ⟨rfl,rfl⟩
  ·rw [if_neg h2]
   go_enter Tryz.func189,Tryz.ntmps189
   go_wp2_with (go_at_call 203;refine (hn _ _).mono ?_;rintro e w' ⟨rfl,rfl⟩)
   go_ret
   exact ⟨rfl,rfl⟩
set_option maxHeartbeats 1000000 in
theorem rank_any (x y:Cl) (W:World):Calls Tryz.prog 158 #[.agg #[.int .i64 x.p,.int .i64 x.w,.int .i64 x.o],.agg #[.int .i64 y.p,.int .i64 y.w,.int .i64 y.o]] W fun e w'=>e=.returned (.int .i64 (cfC x y))∧∃ q os',w'=grow (W.drewN q) os':=by
 have hcon:=fun W'=>compare_any y.o x.o W'
 have he:cfC x y=(if y.o < x.o then -1 else if x.o < y.o then 1 else 0):=rfl
 rw [he]
 generalize (if y.o < x.o then (-1:Int) else if x.o < y.o then 1 else 0)=r at hcon
 go_enter Tryz.func158,Tryz.ntmps158
 go_wp2_with (go_at_call 189;refine (hcon _).mono ?_;rintro e w' ⟨rfl,rfl⟩)
 go_ret
 exact ⟨rfl,0,_,by rw [alloc_eq_grow,alloc_eq_grow,grow_grow];rfl⟩
theorem cmpC (blk off size:Nat) (w:World):CmpLays Tryz.prog 158 #[] encC 3 cfC blk off size w:=fun _ _ _ _ x y=>rank_any x y _
theorem egC:∀ args w,(callFunc 158 args).run Tryz.prog w=.ok (.enter 158 args) w:=enters_of Tryz.func158 (by kernel_rfl) rfl
theorem size_insInner (lt:Cl→Cl→Bool) (a:Nat):∀ (j:Nat) (d:Array Cl),(insInner lt a j d).size=d.size
 | 0,d=>by unfold insInner;rfl
 | j+1,d=>by
  unfold insInner
  split
  ·rw [size_insInner lt a j,size_swp]
  ·rfl
theorem size_insOuter (lt:Cl→Cl→Bool) (a b:Nat):∀ (n i:Nat) (d:Array Cl),b - i=n→(insOuter lt a b i d).size=d.size
 | 0,i,d,hn=>by rw [insOuter_stop _ _ _ _ _ (by omega)]
 | n+1,i,d,hn=>by rw [insOuter_go _ _ _ _ _ (by omega),size_insOuter lt a b n (i+1) _ (by omega),size_insInner]
theorem size_ins (d:Array Cl) (a b:Nat):(Sort.insertionSort (ltOf cfC) d a b).size=d.size:=size_insOuter _ _ _ _ _ _ rfl
shelf_lay_g SlLaysF0.n20 Slsf 20 at Tryz 201 as insC
theorem ins_any (blk off cap a b:Nat) (d0 d:Array Cl) (w0 w:World) (R:RowK encC 3 w0 blk off d0) (hs:d0.size=d.size) (S:SWK encC 3 w0 blk off d w) (hab:a≤b) (hb:b≤d.size) (hsz:d.size < 4611686018427387904) :
  Calls Tryz.prog 201 #[.slice (some ⟨blk,off,none⟩) d.size cap,.int .i64 a,.int .i64 b,.func (.func 158) #[] #[]] w fun e w' =>
   e=.returned (.tuple #[])∧SWK encC 3 w0 blk off (Sort.insertionSort (ltOf cfC) d a b) w':=by
 have hbl:blk < w.heap.size:=Nat.lt_of_lt_of_le R.hblk S.le
 refine (AnyQ.insertionSortCmpFunc insC 3 Tryz.isAgg199 Tryz.sizeOf199 encC encC_len encC_one cfC 158 #[] blk off cap a b d w egC (cmpC blk off d.size w) (S.holds R.hblk R.hH (by omega)) hbl hab hb hsz).mono ?_
 rintro e w' ⟨rfl,n,os,rfl⟩
 exact ⟨rfl,S.on R.hblk n _ os (size_ins d a b)⟩
end Go.Proofs.YtojogjlblgcioanGreat
