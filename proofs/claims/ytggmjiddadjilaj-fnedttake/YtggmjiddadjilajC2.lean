/-
  PROVED HERE: an owned table in memory, as lists; how it stays. Also: what is as it was but the blocks from one number on up to another one. Also: cells that are marked, as lists; a list in memory that grows. Also: columns and rows that are marked, as lists. Also: an owned table whose blocks lie between two bounds. Also: numbers between two others, as a Bool. Also: what the program's within and the model's l1In answer at every argument: the Bool 'inB'; nothing that was in memory is turned. Also: what a border that is ok is, as a Bool. Also: what the program's TxtOk answers at every string: the Bool 'txtOkB', and the memory is left as it was.
-/
import Derived.Test.YtggmjiddadjilajC1
import Derived.Test.YtggmjiddadjilajRows
import Derived.WalkKit
import Derived.ProofKit
import Derived.WalkLawsBesides
import Derived.WalkSpells
import Derived.Below
import Derived.Lib.Strings
namespace Go.Proofs.Ytggmjiddadjilaj
open Go.RowKit

theorem row_since {w w':World} {base:Nat} {e:TypeId} {sz:Nat} {v:Value} {m:Nat} {xs:List Value} (h:w.ownsRow base e sz v m xs) (k:Since base w w'):w'.ownsRow base e sz v m xs :=
 ⟨h.1,h.2.elim Or.inl (fun ⟨g,cap,cur,hv,hg,hc,q⟩=>Or.inr ⟨g,cap,cur,hv,hg,(k.block g hg (Array.getElem?_eq_some_iff.1 hc).1).trans hc,q⟩)⟩
theorem OwnR.since {w w':World} {base:Nat} {v:Value} {ur:List (Value × R)} (h:OwnR w base v ur) (k:Since base w w'):OwnR w' base v ur:=⟨row_since h.own k,fun p hp=>row_since (h.cells p hp) k,h.apart⟩
/-- a table in memory of one's own -/
def OwnT (w:World) (base:Nat) (vc vr:Value) (t:T):Prop:=∃ ur:List (Value × R),ur.map (·.2)=t.rows∧OwnCol w base vc t.cols∧OwnR w base vr ur
theorem OwnT.since {w w':World} {base:Nat} {vc vr:Value} {t:T} (h:OwnT w base vc vr t) (k:Since base w w'):OwnT w' base vc vr t:=by
 obtain ⟨ur,e,a,b⟩:=h
 exact ⟨ur,e,row_since a k,b.since k⟩
theorem OwnT.base {w:World} {base base':Nat} {vc vr:Value} {t:T} (h:OwnT w base vc vr t) (hb:base'≤base):OwnT w base' vc vr t:=by
 obtain ⟨ur,e,a,b⟩:=h
 exact ⟨ur,e,row_base a hb,b.base hb⟩
theorem flat_arr {α:Type} (f:α→List Value) (sz:Nat) (hf:∀ x,(f x).length=sz) (l:List α) (arr:Array Value) (hs:arr.size=l.length * sz) (h:∀ i,(hi:i < l.length)→∀ j,j < sz→arr[i * sz+j]?=(f l[i])[j]?):arr.toList.take (l.length * sz)=l.flatMap f:=by
 rw [List.take_of_length_le (by rw [Array.length_toList,hs];exact Nat.le_refl _)]
 apply List.ext_getElem?
 intro k
 by_cases hk:k < l.length * sz
 ·have hz:0 < sz:=by
   rcases Nat.eq_zero_or_pos sz with h0 | h0
   ·rw [h0] at hk;omega
   ·exact h0
  have h1:k / sz < l.length:=(Nat.div_lt_iff_lt_mul hz).2 hk
  have h2:k % sz < sz:=Nat.mod_lt _ hz
  have e:k=k / sz * sz+k % sz:=by rw [Nat.mul_comm];exact (Nat.div_add_mod k sz).symm
  have a:=h (k / sz) h1 (k % sz) h2
  have b:=flat_get f sz hf l (k / sz) h1 (k % sz) h2
  rw [← e] at a b
  rw [Array.getElem?_toList,a,b]
 ·rw [List.getElem?_eq_none (by rw [Array.length_toList,hs];omega),List.getElem?_eq_none (by rw [flat_len f sz hf];omega)]
/-- rows in an array, the first k of them, each with cells of its own -/
def ArrO (w:World) (z:Nat) (arr:Array Value) (rs:List R) (k:Nat):Prop :=
 ∃ us:List Value,us.length=k∧(∀ i,(hi:i < us.length)→arr[i * 2]?=some us[i]∧arr[i * 2+1]?=some (.bool (rs.getD i dR).whole)∧OwnC w z us[i] (rs.getD i dR).cells)∧us.Pairwise fun p q=>p.ownBlock=none∨p.ownBlock ≠ q.ownBlock
theorem ArrO.zero (w:World) (z:Nat) (arr:Array Value) (rs:List R):ArrO w z arr rs 0:=⟨[],rfl,fun _ hi=>absurd hi (Nat.not_lt_zero _),.nil⟩
theorem ArrO.next {w w':World} {z:Nat} {arr:Array Value} {rs:List R} {k:Nat} (h:ArrO w z arr rs k) (hs:arr.size=rs.length * 2) (hk:k < rs.length) (hz:z≤w.heap.size) (hw:Since z w w') {u:Value} (hu:OwnC w' w.heap.size u (rs.getD k dR).cells) :
  ArrO w' z ((arr.setIfInBounds (k * 2) u).setIfInBounds (k * 2+1) (.bool (rs.getD k dR).whole)) rs (k+1):=by
 obtain ⟨h1,h2,h3⟩:=two_next hs hk u (.bool (rs.getD k dR).whole)
 obtain ⟨us,hl,hg,hp⟩:=h
 refine ⟨us ++ [u],by simp [hl],fun i hi=>?_,?_⟩
 ·rw [List.length_append,List.length_singleton,hl] at hi
  rcases Nat.lt_or_eq_of_le (Nat.lt_succ_iff.1 hi) with hlt | rfl
  ·obtain ⟨e1,e2,e3⟩:=hg i (by omega)
   rw [List.getElem_append_left (by omega)]
   exact ⟨(h1 _ (by omega)).trans e1,(h1 _ (by omega)).trans e2,row_since e3 hw⟩
  ·have e:(us ++ [u])[i]'(by simp [hl])=u:=by
    rw [List.getElem_append_right (by omega)]
    simp
   rw [e]
   exact ⟨h2,h3,row_base hu hz⟩
 ·rw [List.pairwise_append]
  refine ⟨hp,List.pairwise_singleton _ _,fun p hpm q hq=>?_⟩
  rw [List.mem_singleton] at hq
  subst hq
  obtain ⟨i,hi,rfl⟩:=List.mem_iff_getElem.1 hpm
  obtain ⟨_,_,e3⟩:=hg i hi
  cases hb:us[i].ownBlock with
  | none=>exact .inl rfl
  | some b =>
   refine .inr (fun he=>?_)
   have l1:=row_lt e3 hb
   have l2:=row_lt hu he.symm
   omega
theorem ArrO.all {w:World} {z:Nat} {arr:Array Value} {rs:List R} (h:ArrO w (z+1) arr rs rs.length) (hs:arr.size=rs.length * 2) (hg:w.heap[z]?=some (.cells arr 52)) (hm:rs.length≤maxLen) :
  ∃ ur:List (Value × R),ur.map (·.2)=rs∧OwnR w z (.slice (some ⟨z,0,none⟩) rs.length rs.length) ur:=by
 obtain ⟨us,hl,hgt,hp⟩:=h
 have hzl:(us.zip rs).length=rs.length:=by rw [List.length_zip,hl,Nat.min_self]
 refine ⟨us.zip rs,List.map_snd_zip (by omega),⟨?_,fun p hpm=>?_,?_⟩⟩
 ·refine ⟨flat_len rowVs 2 (fun _=>rfl) _,.inr ⟨z,rs.length,arr,by rw [hzl],Nat.le_refl _,hg,by rw [hzl];exact Nat.le_refl _,hm,hs,?_⟩⟩
  refine flat_arr rowVs 2 (fun _=>rfl) (us.zip rs) arr (by rw [hs,hzl]) (fun i hi j hj=>?_)
  rw [hzl] at hi
  obtain ⟨e1,e2,_⟩:=hgt i (by omega)
  rw [getD_get dR hi] at e2
  rw [List.getElem_zip]
  match j,hj with
  | 0,_=>exact e1
  | 1,_=>exact e2
 ·obtain ⟨i,hi,rfl⟩:=List.mem_iff_getElem.1 hpm
  rw [hzl] at hi
  obtain ⟨_,_,e3⟩:=hgt i (by omega)
  rw [getD_get dR hi] at e3
  rw [List.getElem_zip]
  exact row_base e3 (Nat.le_succ _)
 ·rw [List.pairwise_iff_getElem] at hp ⊢
  intro i j hi hj hij
  rw [List.getElem_zip,List.getElem_zip]
  exact hp i j (by omega) (by omega) hij
end Go.Proofs.Ytggmjiddadjilaj
namespace Go.Proofs.Ytggmjiddadjilaj
open Go.RowKit

/-- what lies ahead of B, or at D and behind it, is as it was -/
structure Out (B D:Nat) (w w':World):Prop where
 below:Below B w w'
 block:∀ k,D≤k→k < w.heap.size→w'.heap[k]?=w.heap[k]?
theorem Out.refl (B D:Nat) (w:World):Out B D w w:=⟨Below.refl _ _,fun _ _ _=>rfl⟩
theorem Out.set {B D:Nat} {a w:World} (h:Out B D a w) {p:Addr} (h1:B≤p.block) (h2:p.block < D) (v:Value):Out B D a (w.setCell p v) :=
 ⟨h.below.setCell h1 v,fun k h3 h4=>(Below.heap_setCell _ _ _ _ (by omega)).trans (h.block k h3 h4)⟩
theorem Out.drewN {B D:Nat} {a w:World} (h:Out B D a w) (n:Nat):Out B D a (w.drewN n):=⟨⟨h.below.os,h.below.tape,h.below.output,h.below.size,h.below.block⟩,h.block⟩
end Go.Proofs.Ytggmjiddadjilaj
namespace Go.Proofs.Ytggmjiddadjilaj
open Go.RowKit

/-- a mark's digits, and a mark -/
def digs (n:Nat) (out:ByteArray):ByteArray:=if n=0 then out else digs (n / 10) (⟨#[48+UInt8.ofNat (n % 10)]⟩ ++ out)
termination_by n
decreasing_by omega
def mt (k:Nat):ByteArray:=⟨#[109]⟩ ++ digs k ⟨#[]⟩
/-- a cell of marks -/
def mkC (k:Nat):C:=⟨mt k,(k:Int)+1,(k:Int)+2,(k:Int)+3,(k:Int)+4,(k:Int)+5,(k:Int)+6,(k:Int)+7,(k:Int)+8,(k:Int)+9,(k:Int)+10⟩
def mkCs (n k:Nat):List C:=(List.range n).map fun i=>mkC (k+11 * i)
theorem flat_take {α:Type} (f:α→List Value) (sz:Nat) (hf:∀ x,(f x).length=sz) (l:List α) (arr:Array Value) (hs:l.length * sz≤arr.size) (h:∀ i,(hi:i < l.length)→∀ j,j < sz→arr[i * sz+j]?=(f l[i])[j]?):arr.toList.take (l.length * sz)=l.flatMap f:=by
 have e:=flat_arr f sz hf l (arr.extract 0 (l.length * sz)) (by rw [Array.size_extract];omega) (fun i hi j hj=>by
  have hlt:i * sz+j < l.length * sz:=by
   have:(i+1) * sz≤l.length * sz:=Nat.mul_le_mul_right sz hi
   rw [Nat.succ_mul] at this
   omega
  rw [Array.getElem?_extract,if_pos (by omega),Nat.zero_add]
  exact h i hi j hj)
 rw [← e]
 simp [List.take_take]
theorem grown_refl (w:World) (r:Option Nat):w.grownBy w r:=⟨rfl,rfl,rfl,Nat.le_refl _,fun _ _ _=>rfl⟩
theorem grown_trans {a b c:World} {r:Option Nat} (h:a.grownBy b r) (k:b.grownBy c r):a.grownBy c r :=
 ⟨k.os.trans h.os,k.tape.trans h.tape,k.output.trans h.output,Nat.le_trans h.size k.size,fun i hi hr=>(k.block i (Nat.lt_of_lt_of_le hi h.size) hr).trans (h.block i hi hr)⟩
theorem grown_below {a b:World} {r:Option Nat} (h:Below a.heap.size a b):a.grownBy b r:=⟨h.os,h.tape,h.output,h.size,fun k hk _=>h.block k hk⟩
theorem grown_set {a w:World} {g:Nat} (h:a.grownBy w (some g)) {p:Addr} (hp:p.block=g) (v:Value):a.grownBy (w.setCell p v) (some g) :=
 ⟨h.os,h.tape,h.output,by rw [sizeSet];exact h.size,fun k hk hr=>(Below.heap_setCell _ _ _ _ (fun e=>hr (by rw [e,hp]))).trans (h.block k hk hr)⟩
end Go.Proofs.Ytggmjiddadjilaj
namespace Go.Proofs.Ytggmjiddadjilaj
open Go.RowKit

theorem Out.trans {B D:Nat} {a b c:World} (h:Out B D a b) (k:Out B D b c):Out B D a c :=
 ⟨h.below.trans k.below,fun i h1 h2=>(k.block i h1 (Nat.lt_of_lt_of_le h2 h.below.size)).trans (h.block i h1 h2)⟩
theorem Out.alloc {B D:Nat} {a w:World} (h:Out B D a w) (hB:B≤w.heap.size) (o:Obj):Out B D a (w.alloc o) :=
 ⟨h.below.alloc hB o,fun k h1 h2=>(Below.heap_alloc _ _ _ (Nat.lt_of_lt_of_le h2 h.below.size)).trans (h.block k h1 h2)⟩
def mkCol (k:Nat):Int × Int:=((k:Int),(k:Int)+1)
def mkCols (n k:Nat):List (Int × Int):=(List.range n).map fun i=>mkCol (k+2 * i)
def ColArrF (arr:Array Value) (f:Nat→Int × Int) (k:Nat):Prop:=∀ i,i < k→arr[i * 2]?=some (.int .i64 (f i).1)∧arr[i * 2+1]?=some (.int .i64 (f i).2)
theorem ColArrF.next {arr:Array Value} {f:Nat→Int × Int} {k n:Nat} (h:ColArrF arr f k) (hs:arr.size=n * 2) (hk:k < n) :
  ColArrF ((arr.setIfInBounds (k * 2) (.int .i64 (f k).1)).setIfInBounds (k * 2+1) (.int .i64 (f k).2)) f (k+1):=by
 obtain ⟨h1,h2,h3⟩:=two_next hs hk (.int .i64 (f k).1) (.int .i64 (f k).2)
 intro i hi
 rcases Nat.lt_or_eq_of_le (Nat.lt_succ_iff.1 hi) with hlt | rfl
 ·exact ⟨(h1 _ (by omega)).trans (h i hlt).1,(h1 _ (by omega)).trans (h i hlt).2⟩
 ·exact ⟨h2,h3⟩
/-- which number a row's marks begin with -/
def kAt (rs:List R) (k:Nat):Nat→Nat
 | 0=>k
 | i+1=>kAt rs k i+11 * (rs.getD i dR).cells.length+1
def mkR (k:Nat) (r:R):R:=⟨mkCs r.cells.length k,decide ((k+11 * r.cells.length) % 3=0)⟩
def dU:Value × R:=(.slice none 0 0,dR)
/-- the first i of rows marked -/
def mkU (ur:List (Value × R)) (k:Nat):Nat→List (Value × R)
 | 0=>ur
 | i+1=>(mkU ur k i).set i ((ur.getD i dU).1,mkR (kAt (ur.map (·.2)) k i) (ur.getD i dU).2)
/-- one row of a table that is owned: its cells marked, and whether it is whole -/
theorem OwnR.mark {w w1:World} {base:Nat} {v:Value} {ur:List (Value × R)} (h:OwnR w base v ur) {i g cap:Nat} (hv:v=.slice (some ⟨g,0,none⟩) ur.length cap) {p:Value × R} (hi:ur[i]?=some p) {r:R} (hc:OwnC w1 base p.1 r.cells) (k:w.grownBy w1 p.1.ownBlock) :
  OwnR (w1.setCell ⟨g,i * 2+1,none⟩ (.bool r.whole)) base v (ur.set i (p.1,r)):=by
 have hil:i < ur.length:=(List.getElem?_eq_some_iff.1 hi).1
 have hpm:p ∈ ur:=List.mem_of_getElem? hi
 have hne:v.ownBlock=none∨v.ownBlock ≠ p.1.ownBlock:=row_ne h.own (h.cells p hpm) (by decide)
 have hvg:v.ownBlock=some g:=by rw [hv];rfl
 have K1:Off 0 none p.1.ownBlock w w1:=Off.grown k
 have h1:=row_off h.own K1 (Nat.zero_le _) (.inr (by rw [hvg];simp)) hne
 have hS:Off 0 (some g) none w1 (w1.setCell ⟨g,i * 2+1,none⟩ (.bool r.whole)):=Off.set w1 ⟨g,i * 2+1,none⟩ rfl _
 have hcw:OwnC (w1.setCell ⟨g,i * 2+1,none⟩ (.bool r.whole)) base p.1 r.cells:=by
  refine row_off hc hS (Nat.zero_le _) ?_ ?_
  ·rcases row_ne hc h1 (by decide) with e | e
   ·exact .inl e
   ·exact .inr (by rw [← hvg];exact e)
  ·rcases hb:p.1.ownBlock with _ | b
   ·exact .inl rfl
   ·exact .inr (by simp)
 refine ⟨?_,fun q hq=>?_,?_⟩
 ·rcases h1.2 with ⟨e,_⟩ | ⟨g',cap',cur,e,hg',hcur,a1,a2,a3,a4⟩
  ·rw [hv] at e;simp at e
  ·rw [hv] at e
   simp only [Value.slice.injEq,Option.some.injEq,Addr.mk.injEq,and_true,true_and] at e
   obtain ⟨rfl,rfl⟩:=e
   refine ⟨by rw [flat_len rowVs 2 (fun _=>rfl)],.inr ⟨g,cap,cur.setIfInBounds (i * 2+1) (.bool r.whole),by rw [List.length_set];exact hv,hg',setB hcur _,by rw [List.length_set];exact a1,a2,by rw [Array.size_setIfInBounds];exact a3,?_⟩⟩
   refine flat_take rowVs 2 (fun _=>rfl) (ur.set i (p.1,r)) (cur.setIfInBounds (i * 2+1) (.bool r.whole)) (by rw [List.length_set,Array.size_setIfInBounds,a3];omega) (fun j hj0 m hm=>?_)
   have hj:j < ur.length:=by rw [List.length_set] at hj0;exact hj0
   have hold:cur[j * 2+m]?=(rowVs ur[j])[m]?:=by
    have e:=flat_get rowVs 2 (fun _=>rfl) ur j hj m hm
    rw [← a4,List.getElem?_take_of_lt (by omega),Array.getElem?_toList] at e
    exact e
   by_cases hji:j=i
   ·subst hji
    have ep:ur[j]=p:=by rw [List.getElem?_eq_getElem hj] at hi;exact Option.some.inj hi
    rw [List.getElem_set_self]
    match m,hm with
    | 0,_ =>
     rw [Array.getElem?_setIfInBounds_ne (by omega),hold,ep]
     rfl
    | 1,_ =>
     rw [Array.getElem?_setIfInBounds_self_of_lt (by rw [a3];omega)]
     rfl
   ·rw [List.getElem_set_ne (by omega),Array.getElem?_setIfInBounds_ne (by omega)]
    exact hold
 ·obtain ⟨j,hj0,rfl⟩:=List.mem_iff_getElem.1 hq
  have hj:j < ur.length:=by rw [List.length_set] at hj0;exact hj0
  by_cases hji:j=i
  ·subst hji
   rw [List.getElem_set_self]
   exact hcw
  ·rw [List.getElem_set_ne (by omega)]
   have hap:ur[j].1.ownBlock=none∨ur[j].1.ownBlock ≠ p.1.ownBlock:=by
    have ep:ur[i]=p:=by rw [List.getElem?_eq_getElem hil] at hi;exact Option.some.inj hi
    have hp:=List.pairwise_iff_getElem.1 h.apart
    rcases Nat.lt_or_gt_of_ne hji with hl | hl
    ·rw [← ep];exact hp j i hj hil hl
    ·have:=hp i j hil hj hl
     rw [ep] at this
     rcases hb:ur[j].1.ownBlock with _ | b
     ·exact .inl rfl
     ·refine .inr (fun e=>?_)
      rcases this with e1 | e1
      ·rw [e1] at e;cases e
      ·exact e1 (e.symm.trans hb.symm)
   have c1:=row_off (h.cells _ (List.getElem_mem hj)) K1 (Nat.zero_le _) (by rcases hb:ur[j].1.ownBlock with _ | b;exact .inl rfl;exact .inr (by simp)) hap
   refine row_off c1 hS (Nat.zero_le _) ?_ (by rcases hb:ur[j].1.ownBlock with _ | b;exact .inl rfl;exact .inr (by simp))
   rcases row_ne c1 h1 (by decide) with e | e
   ·exact .inl e
   ·exact .inr (by rw [← hvg];exact e)
 ·rw [List.pairwise_iff_getElem]
  have hp:=List.pairwise_iff_getElem.1 h.apart
  have hfst:∀ j,(hj:j < ur.length)→((ur.set i (p.1,r))[j]'(by rw [List.length_set];exact hj)).1=ur[j].1:=fun j hj=>by
   by_cases hji:j=i
   ·subst hji
    rw [List.getElem_set_self,show ur[j]=p by rw [List.getElem?_eq_getElem hj] at hi;exact Option.some.inj hi]
   ·rw [List.getElem_set_ne (by omega)]
  intro a b ha0 hb0 hab
  have ha:a < ur.length:=by rw [List.length_set] at ha0;exact ha0
  have hb:b < ur.length:=by rw [List.length_set] at hb0;exact hb0
  rw [hfst a ha,hfst b hb]
  exact hp a b ha hb hab
end Go.Proofs.Ytggmjiddadjilaj
namespace Go.Proofs.Ytggmjiddadjilaj
open Go.RowKit

theorem map_snd_get {ur:List (Value × R)} {i:Nat} {p:Value × R} (h:ur[i]?=some p):(ur.map (·.2)).getD i dR=p.2:=by simp [List.getD,h]
theorem own_get {w:World} {base:Nat} {v:Value} {ur:List (Value × R)} (h:OwnR w base v ur) {i:Nat} {p:Value × R} (hi:ur[i]?=some p):∃ g cap cur,v=.slice (some ⟨g,0,none⟩) ur.length cap∧ur.length≤cap∧cap≤maxLen∧g < w.heap.size∧base≤g∧w.heap[g]?=some (.cells cur 52)∧cur.size=cap * 2∧cur[i * 2]?=some p.1∧cur[i * 2+1]?=some (.bool p.2.whole):=by
 have hil:i < ur.length:=(List.getElem?_eq_some_iff.1 hi).1
 have ep:ur[i]=p:=by rw [List.getElem?_eq_getElem hil] at hi;exact Option.some.inj hi
 rcases h.own.2 with ⟨_,e⟩ | ⟨g,cap,cur,e,hg,hc,a1,a2,a3,a4⟩
 ·omega
 ·have hold:∀ m,m < 2→cur[i * 2+m]?=(rowVs p)[m]?:=fun m hm=>by
   have e:=flat_get rowVs 2 (fun _=>rfl) ur i hil m hm
   rw [← a4,List.getElem?_take_of_lt (by omega),Array.getElem?_toList,ep] at e
   exact e
  exact ⟨g,cap,cur,e,a1,a2,(Array.getElem?_eq_some_iff.1 hc).1,hg,hc,a3,hold 0 (by omega),hold 1 (by omega)⟩

/-- what is no row and no cell stays -/
def Kty (w w':World):Prop:=∀ (j:Nat) (cur:Array Value) (ty:TypeId),ty ≠ 52→ty ≠ 41→w.heap[j]?=some (.cells cur ty)→w'.heap[j]?=some (.cells cur ty)
theorem Kty.refl (w:World):Kty w w:=fun _ _ _ _ _ h=>h
theorem Kty.trans {a b c:World} (h:Kty a b) (k:Kty b c):Kty a c:=fun j cur ty h1 h2 h3=>k j cur ty h1 h2 (h j cur ty h1 h2 h3)
theorem Kty.cells {w w':World} {B m:Nat} {u:Value} {xs:List Value} (h:w.ownsRow B 41 11 u m xs) (k:w.grownBy w' u.ownBlock):Kty w w':=fun j cur ty _ h2 h3=>by
 refine (k.block j (Array.getElem?_eq_some_iff.1 h3).1 (fun e=>?_)).trans h3
 rcases row_ne_block h h3 (fun e=>h2 e.symm) with h4 | h4
 ·rw [h4] at e;cases e
 ·exact h4 e.symm
theorem Kty.set {w:World} {g o:Nat} {arr:Array Value} (h:w.heap[g]?=some (.cells arr 52)) (v:Value):Kty w (w.setCell ⟨g,o,none⟩ v):=fun j cur ty h1 _ h3=>by
 refine (Below.heap_setCell _ _ _ _ (fun e=>?_)).trans h3
 subst e
 rw [h3] at h
 simp at h
 exact h1 h.2
/-- a table of one's own whose blocks lie ahead of D -/
def OwnD (w:World) (B D:Nat) (vc vr:Value) (cols:List (Int × Int)) (ur:List (Value × R)):Prop:=OwnCol w B vc cols∧OwnR w B vr ur∧(∀ b,vc.ownBlock=some b→b < D)∧(∀ b,vr.ownBlock=some b→b < D)∧∀ p ∈ ur,∀ b,p.1.ownBlock=some b→b < D
theorem OwnD.of {w:World} {B:Nat} {vc vr:Value} {cols:List (Int × Int)} {ur:List (Value × R)} (h1:OwnCol w B vc cols) (h2:OwnR w B vr ur):OwnD w B w.heap.size vc vr cols ur :=
 ⟨h1,h2,fun _ e=>(row_lt h1 e).2,fun _ e=>(row_lt h2.own e).2,fun p hp _ e=>(row_lt (h2.cells p hp) e).2⟩
theorem OwnD.out {w w':World} {B D B' D':Nat} {vc vr:Value} {cols:List (Int × Int)} {ur:List (Value × R)} (h:OwnD w B D vc vr cols ur) (k:Out B' D' w w') (hd:D≤B'∨D'≤B):OwnD w' B D vc vr cols ur:=by
 obtain ⟨h1,h2,h3,h4,h5⟩:=h
 have key:∀ {e:TypeId} {sz:Nat} {v:Value} {m:Nat} {xs:List Value},w.ownsRow B e sz v m xs→(∀ b,v.ownBlock=some b→b < D)→w'.ownsRow B e sz v m xs:=fun h hv=>by
  refine ⟨h.1,h.2.elim Or.inl (fun ⟨g,cap,cur,e,hg,hc,q⟩=>Or.inr ⟨g,cap,cur,e,hg,?_,q⟩)⟩
  have hgD:g < D:=hv g (by rw [e];rfl)
  refine Eq.trans ?_ hc
  rcases hd with hd | hd
  ·exact k.below.block g (by omega)
  ·exact k.block g (by omega) (Array.getElem?_eq_some_iff.1 hc).1
 exact ⟨key h1 h3,⟨key h2.own h4,fun p hp=>key (h2.cells p hp) (h5 p hp),h2.apart⟩,h3,h4,h5⟩
theorem OwnD.kept {w w':World} {B D:Nat} {vc vr:Value} {cols:List (Int × Int)} {ur:List (Value × R)} (h:OwnD w B D vc vr cols ur) (k:Below w.heap.size w w'):OwnD w' B D vc vr cols ur:=by
 have key:∀ {e:TypeId} {sz:Nat} {v:Value} {m:Nat} {xs:List Value},w.ownsRow B e sz v m xs→w'.ownsRow B e sz v m xs:=fun h =>
  ⟨h.1,h.2.elim Or.inl (fun ⟨g,cap,cur,e,hg,hc,q⟩=>Or.inr ⟨g,cap,cur,e,hg,(k.block g (Array.getElem?_eq_some_iff.1 hc).1).trans hc,q⟩)⟩
 exact ⟨key h.1,⟨key h.2.1.own,fun p hp=>key (h.2.1.cells p hp),h.2.1.apart⟩,h.2.2⟩
/-- the number behind a table's last mark -/
def kEnd (cols:List (Int × Int)) (ur:List (Value × R)):Nat:=kAt (ur.map (·.2)) (1+2 * cols.length) ur.length
end Go.Proofs.Ytggmjiddadjilaj
namespace Go.Proofs.Ytggmjiddadjilaj
open Go.RowKit

def inB (n lo hi:Int):Bool:=decide (lo≤n∧n≤hi)
theorem retB {a b:Bool} (h:a=b):Ending.returned (.bool a)=.returned (.bool b):=by rw [h]
theorem inB_true {n lo hi:Int} (h1:lo≤n) (h2:n≤hi):inB n lo hi=true:=by simp [inB,h1,h2]
theorem inB_false {n lo hi:Int} (h:¬ (lo≤n∧n≤hi)):inB n lo hi=false:=by simp only [inB,h,decide_false]
end Go.Proofs.Ytggmjiddadjilaj
namespace Go.Proofs.Ytggmjiddadjilaj
open Go.RowKit

theorem within_any (n lo hi:Int) (w:World) :
  Calls Try.prog 36 #[.int .i64 n,.int .i64 lo,.int .i64 hi] w fun e w'=>e=.returned (.bool (inB n lo hi))∧w'=w:=by
 by_cases h1:lo≤n
 ·by_cases h2:n≤hi
  ·have HB:Hid (inB n lo hi=true):=inB_true h1 h2
   go_enter Try.func36,Try.ntmps36
   go_wp2
   go_ret
   exact ⟨retB HB.out.symm,rfl⟩
  ·have HB:Hid (inB n lo hi=false):=inB_false (by omega)
   go_enter Try.func36,Try.ntmps36
   go_wp2
   go_ret
   exact ⟨retB HB.out.symm,rfl⟩
 ·have HB:Hid (inB n lo hi=false):=inB_false (by omega)
  go_enter Try.func36,Try.ntmps36
  go_wp2
  go_ret
  exact ⟨retB HB.out.symm,rfl⟩

theorem l1In_any (n lo hi:Int) (w:World) :
  Calls Try.prog 39 #[.int .i64 n,.int .i64 lo,.int .i64 hi] w fun e w'=>e=.returned (.bool (inB n lo hi))∧w'=w:=by
 by_cases h1:lo≤n
 ·by_cases h2:n≤hi
  ·have HB:Hid (inB n lo hi=true):=inB_true h1 h2
   go_enter Try.func39,Try.ntmps39
   go_wp2
   go_ret
   exact ⟨retB HB.out.symm,rfl⟩
  ·have HB:Hid (inB n lo hi=false):=inB_false (by omega)
   go_enter Try.func39,Try.ntmps39
   go_wp2
   go_ret
   exact ⟨retB HB.out.symm,rfl⟩
 ·have HB:Hid (inB n lo hi=false):=inB_false (by omega)
  go_enter Try.func39,Try.ntmps39
  go_wp2
  go_ret
  exact ⟨retB HB.out.symm,rfl⟩
end Go.Proofs.Ytggmjiddadjilaj
namespace Go.Proofs.Ytggmjiddadjilaj
open Go.RowKit

def brdOkB (a b:Int):Bool:=decide ((a=0∨a=4)∧b=0∨(1≤a∧a≤3)∧1≤b∧b≤3)
theorem brd_zero (b:Int):brdOkB 0 b=(b == 0):=by rw [Bool.eq_iff_iff];simp [brdOkB]
theorem brd_four (b:Int):brdOkB 4 b=(b == 0):=by rw [Bool.eq_iff_iff];simp [brdOkB];
theorem brd_seen {a:Int} (b:Int) (h1:1≤a) (h2:a≤3):brdOkB a b=inB b 1 3:=by rw [Bool.eq_iff_iff];simp [brdOkB,inB];omega
theorem brd_other {a:Int} (b:Int) (h0:a ≠ 0) (h4:a ≠ 4) (h:¬ (1≤a∧a≤3)):brdOkB a b=false:=by simp [brdOkB];omega
end Go.Proofs.Ytggmjiddadjilaj
namespace Go.Proofs.Ytggmjiddadjilaj
open Go.RowKit

/-- the i-th byte of a text, 0 past its end -/
def ch (s:ByteArray) (i:Nat):Int:=if h:i < s.size then (s[i].toNat:Int) else 0
def goodB (s:ByteArray) (i:Nat):Bool:=decide ((ch s i=32→i ≠ 0∧i+1 ≠ s.size∧ch s (i - 1) ≠ 32)∧(ch s i ≠ 32→97≤ch s i∧ch s i≤122))
def txtOkB (s:ByteArray):Bool:=decide (s.size≤30) && (List.range s.size).all (goodB s)

theorem txtOkB_iff (s:ByteArray):txtOkB s=true ↔ s.size≤30∧∀ i,i < s.size→goodB s i=true:=by
 simp [txtOkB,List.all_eq_true]
theorem txtOkB_long {s:ByteArray} (h:¬ s.size≤30):txtOkB s=false:=by simp [txtOkB,h]
theorem txtOkB_bad {s:ByteArray} (i:Nat) (hi:i < s.size) (h:goodB s i=false):txtOkB s=false:=by
 cases hb:txtOkB s with
 | false=>rfl
 | true=>rw [((txtOkB_iff s).1 hb).2 i hi] at h;cases h
theorem txtOkB_all {s:ByteArray} (h30:s.size≤30) (h:∀ i,i < s.size→goodB s i=true):txtOkB s=true:=(txtOkB_iff s).2 ⟨h30,h⟩
theorem ch_at {s:ByteArray} {i:Nat} (h:i < s.size):ch s i=(s[i].toNat:Int):=by simp [ch,h]
theorem next_all {s:ByteArray} {k:Nat} (h:∀ j,j < k→goodB s j=true) (hk:goodB s k=true):∀ j,j < k+1→goodB s j=true:=by
 intro j hj
 rcases Nat.lt_or_eq_of_le (Nat.lt_succ_iff.1 hj) with h1 | h1
 ·exact h j h1
 ·rw [h1];exact hk
theorem toList_nil {s:ByteArray} (h:s.size=0):s.toList=[]:=by
 rw [Lib.toList_data];exact List.eq_nil_of_length_eq_zero (by simpa using h)
theorem size_nil {s:ByteArray} (h:s.toList=[]):s.size=0:=by
 rw [Lib.toList_data] at h;have:=congrArg List.length h;simpa using this
theorem ret_bool {a b:Bool} (h:a=b):Ending.returned (.bool a)=.returned (.bool b):=by rw [h]

def bef (s:ByteArray) (k:Nat):Int:=if k=0 then 32 else ch s (k - 1)
def goodI (s:ByteArray) (j:Nat):Prop:=(ch s j=32→bef s j ≠ 32)∧(ch s j ≠ 32→97≤ch s j∧ch s j≤122)
theorem goodI_next {s:ByteArray} {k:Nat} (h:∀ j,j < k→goodI s j) (hk:goodI s k):∀ j,j < k+1→goodI s j:=by
 intro j hj
 rcases Nat.lt_or_eq_of_le (Nat.lt_succ_iff.1 hj) with h1 | h1
 ·exact h j h1
 ·rw [h1];exact hk
theorem txtOkB_badI {s:ByteArray} (k:Nat) (hk:k < s.size) (h:¬ goodI s k):txtOkB s=false:=by
 refine txtOkB_bad k hk ?_
 unfold goodI bef at h
 unfold goodB
 rw [decide_eq_false_iff_not]
 intro ⟨h1,h2⟩
 apply h
 refine ⟨fun e=>?_,h2⟩
 obtain ⟨a,_,c⟩:=h1 e
 simp [a];exact c
theorem txtOkB_endI {s:ByteArray} (h30:s.size≤30) (h:∀ j,j < s.size→goodI s j) (hz:s.size ≠ 0) (hl:bef s s.size ≠ 32):txtOkB s=true:=by
 refine txtOkB_all h30 (fun i hi=>?_)
 have hg:=h i hi
 unfold goodI bef at hg
 unfold bef at hl
 unfold goodB
 rw [decide_eq_true_iff]
 refine ⟨fun e=>?_,hg.2⟩
 have h1:=hg.1 e
 by_cases i0:i=0
 ·simp [i0] at h1
 ·simp [i0] at h1
  refine ⟨i0,fun he=>?_,h1⟩
  rw [if_neg hz,← he] at hl
  simp at hl
  exact hl e
theorem txtOkB_emptyI {s:ByteArray} (hz:s.size=0):txtOkB s=true:=txtOkB_all (by omega) (fun i hi=>by omega)
theorem txtOkB_lastI {s:ByteArray} (hz:s.size ≠ 0) (hl:bef s s.size=32):txtOkB s=false:=by
 refine txtOkB_bad (s.size - 1) (by omega) ?_
 unfold bef at hl
 rw [if_neg hz] at hl
 unfold goodB
 rw [decide_eq_false_iff_not]
 intro ⟨h1,_⟩
 exact (h1 hl).2.1 (by omega)
theorem bef_succ {s:ByteArray} {k:Nat} (h:k < s.size):bef s (k+1)=(s[k].toNat:Int):=by simp [bef,ch,h]

set_option maxRecDepth 100000 in
set_option maxHeartbeats 400000 in
theorem implTxtOk (s:ByteArray) (w:World) (hs:s.size≤maxLen) :
  Calls Try.prog 43 #[.string s] w fun e w'=>e=.returned (.bool (txtOkB s))∧w'=w:=by
 unfold maxLen at hs
 by_cases h30:s.size≤30
 ·go_enter Try.func43,Try.ntmps43
  go_wp2
  go_loop [3,4,10] (fun b _ i=>∃ (k:Nat) (B:Int),k≤s.size∧i=.int .i64 k∧b=.int .u8 B∧Hid (bef s k=B)∧Hid (∀ j,j < k→goodI s j)) (fun _ _ i=>s.size - (intOf i).toNat)
  case atStart=>exact ⟨0,32,Nat.zero_le _,rfl,rfl,rfl,fun j hj=>absurd hj (Nat.not_lt_zero _)⟩
  case round =>
   obtain ⟨k,B,hk,rfl,rfl,HBf,HA⟩:=hrel
   by_cases hlt:k < s.size
   ·have hb:(s[k].toNat:Int) < 256:=by have:=s[k].toNat_lt;omega
    have HC:Hid (ch s k=(s[k].toNat:Int)):=ch_at hlt
    have HS:Hid (bef s (k+1)=(s[k].toNat:Int)):=bef_succ hlt
    by_cases hc:(s[k].toNat:Int)=32
    ·have hc':((s[k].toNat:Int) == 32)=true:=beq_iff_eq.2 hc
     have hc2:((s[k].toNat:Int) != 32)=false:=by rw [bne,hc'];rfl
     have HE:Hid (ch s k=32):=HC.out.trans hc
     clear hc HC hb
     by_cases hB:B=32
     ·as_aux_lemma =>
       have hB':(B == 32)=true:=beq_iff_eq.2 hB
       have HF:Hid (txtOkB s=false):=txtOkB_badI k hlt (fun hg=>hg.1 HE.out (HBf.out.trans hB))
       clear hB HE HBf HA HS
       go_wp2
       go_ret
       exact ⟨ret_bool HF.out.symm,rfl⟩
     ·as_aux_lemma =>
       have hB':(B == 32)=false:=beq_eq_false_iff_ne.2 hB
       have HN:Hid (∀ j,j < k+1→goodI s j):=goodI_next HA.out ⟨fun _=>by rw [HBf.out];exact hB,fun hne=>absurd HE.out hne⟩
       clear hB HE HBf HA
       go_wp2
       go_round
       case rel=>exact ⟨k+1,_,by omega,by go_num,rfl,HS,HN⟩
       case measure=>simp [intOf];omega
    ·have hc':((s[k].toNat:Int) == 32)=false:=beq_eq_false_iff_ne.2 hc
     have hc2:((s[k].toNat:Int) != 32)=true:=bne_iff_ne.2 hc
     by_cases hr:97≤(s[k].toNat:Int)∧(s[k].toNat:Int)≤122
     ·as_aux_lemma =>
       have HN:Hid (∀ j,j < k+1→goodI s j):=goodI_next HA.out ⟨fun he=>absurd (HC.out.symm.trans he) hc,fun _=>by rw [HC.out];exact hr⟩
       obtain ⟨hr1,hr2⟩:=hr
       clear HC HA hc HBf
       go_wp2
       go_round
       case rel=>exact ⟨k+1,_,by omega,by go_num,rfl,HS,HN⟩
       case measure=>simp [intOf];omega
     ·have HF:Hid (txtOkB s=false):=txtOkB_badI k hlt (fun hg=>hr (by have:=hg.2 (by rw [HC.out];exact hc);rw [HC.out] at this;exact this))
      clear HC HA hc HBf HS
      by_cases hr1:97≤(s[k].toNat:Int)
      ·as_aux_lemma =>
        have hr2:¬ (s[k].toNat:Int)≤122:=by omega
        clear hr
        go_wp2
        go_ret
        exact ⟨ret_bool HF.out.symm,rfl⟩
      ·as_aux_lemma =>
        clear hr
        go_wp2
        go_ret
        exact ⟨ret_bool HF.out.symm,rfl⟩
   ·obtain rfl:k=s.size:=by omega
    by_cases hz:s.size=0
    ·have he:s.toList=[]:=toList_nil hz
     have HF:Hid (txtOkB s=true):=txtOkB_emptyI hz
     clear HBf HA
     go_wp2
     go_ret
     exact ⟨ret_bool HF.out.symm,rfl⟩
    ·have he:¬ s.toList=[]:=fun h=>hz (size_nil h)
     have he2:s.toList.isEmpty=false:=by simpa using he
     by_cases hB:B=32
     ·have hB':(B != 32)=false:=by simp [hB]
      have HF:Hid (txtOkB s=false):=txtOkB_lastI hz (HBf.out.trans hB)
      clear HBf HA hB hz he
      go_wp2
      go_ret
      exact ⟨ret_bool HF.out.symm,rfl⟩
     ·have hB':(B != 32)=true:=bne_iff_ne.2 hB
      have HF:Hid (txtOkB s=true):=txtOkB_endI h30 HA.out hz (by rw [HBf.out];exact hB)
      clear HBf HA hB hz he
      go_wp2
      go_ret
      exact ⟨ret_bool HF.out.symm,rfl⟩
 ·go_enter Try.func43,Try.ntmps43
  go_wp2
  go_ret
  exact ⟨ret_bool (txtOkB_long h30).symm,rfl⟩
end Go.Proofs.Ytggmjiddadjilaj
