/-
  PROVED HERE: cells and columns in an array, as lists. Also: an owned table in memory, as lists; how it stays. Also: what is as it was but the blocks from one number on up to another one. Also: cells that are marked, as lists; a list in memory that grows. Also: columns and rows that are marked, as lists. Also: an owned table whose blocks lie between two bounds.
-/
import Derived.Test.YtggmjiddadjilajE6
import Derived.Test.YtggmjiddadjilajE1
import Derived.Laws.MakeOwn
import Derived.OwnWalk
import Derived.Lib.SmallJoins
import Derived.WalkLawsBesides
import Derived.WalkSpells
namespace Go.Proofs.Ytggmjiddadjilaj
open Go.RowKit

/-- the eleven cells of a cell in an array -/
def CellArr (arr:Array Value) (o:Nat) (x:C):Prop :=
 arr[o]?=some (.string x.s)∧arr[o+1]?=some (.int .i64 x.c)∧arr[o+2]?=some (.int .i64 x.r)∧arr[o+3]?=some (.int .i64 x.a1)∧arr[o+4]?=some (.int .i64 x.b1)∧arr[o+5]?=some (.int .i64 x.a2) ∧
 arr[o+6]?=some (.int .i64 x.b2)∧arr[o+7]?=some (.int .i64 x.a3)∧arr[o+8]?=some (.int .i64 x.b3)∧arr[o+9]?=some (.int .i64 x.a4)∧arr[o+10]?=some (.int .i64 x.b4)
def put11 (arr:Array Value) (o:Nat) (x:C):Array Value :=
 ((((((((((arr.setIfInBounds o (.string x.s)).setIfInBounds (o+1) (.int .i64 x.c)).setIfInBounds (o+2) (.int .i64 x.r)).setIfInBounds (o+3) (.int .i64 x.a1)).setIfInBounds (o+4) (.int .i64 x.b1)).setIfInBounds (o+5) (.int .i64 x.a2)).setIfInBounds (o+6) (.int .i64 x.b2)).setIfInBounds (o+7) (.int .i64 x.a3)).setIfInBounds (o+8) (.int .i64 x.b3)).setIfInBounds (o+9) (.int .i64 x.a4)).setIfInBounds (o+10) (.int .i64 x.b4)
/-- the new array of so many cells -/
def newC (n:Nat):Array Value:=madeCells (Value.agg #[.string ⟨#[]⟩,.int .i64 0,.int .i64 0,.int .i64 0,.int .i64 0,.int .i64 0,.int .i64 0,.int .i64 0,.int .i64 0,.int .i64 0,.int .i64 0]).cells (n * 11)
def newR (n:Nat):Array Value:=madeCells (Value.agg #[.slice none 0 0,.bool false]).cells (n * 2)
/-- rows in an array, the first k of them -/
def RowArr (w:World) (z:Nat) (arr:Array Value) (rs:List R) (k:Nat):Prop :=
 ∀ i,i < k→∃ u,arr[i * 2]?=some u∧arr[i * 2+1]?=some (.bool (rs.getD i dR).whole)∧CellsAt w z u (rs.getD i dR).cells
theorem RowArr.next {w w':World} {z:Nat} {arr:Array Value} {rs:List R} {k:Nat} (h:RowArr w z arr rs k) (hs:arr.size=rs.length * 2) (hk:k < rs.length) (hw:Since z w w') {u:Value} (hu:CellsAt w' z u (rs.getD k dR).cells) :
  RowArr w' z ((arr.setIfInBounds (k * 2) u).setIfInBounds (k * 2+1) (.bool (rs.getD k dR).whole)) rs (k+1):=by
 obtain ⟨h1,h2,h3⟩:=two_next hs hk u (.bool (rs.getD k dR).whole)
 intro i hi
 rcases Nat.lt_or_eq_of_le (Nat.lt_succ_iff.1 hi) with hlt | rfl
 ·obtain ⟨v,e1,e2,e3⟩:=h i hlt
  exact ⟨v,(h1 _ (by omega)).trans e1,(h1 _ (by omega)).trans e2,e3.since hw⟩
 ·exact ⟨u,h2,h3,hu⟩

def newK (n:Nat):Array Value:=madeCells (Value.agg #[.int .i64 0,.int .i64 0]).cells (n * 2)
def ColArr (arr:Array Value) (ps:List (Int × Int)) (k:Nat):Prop:=∀ i,i < k→arr[i * 2]?=some (.int .i64 (ps.getD i (0,0)).1)∧arr[i * 2+1]?=some (.int .i64 (ps.getD i (0,0)).2)
theorem ColArr.next {arr:Array Value} {ps:List (Int × Int)} {k:Nat} (h:ColArr arr ps k) (hs:arr.size=ps.length * 2) (hk:k < ps.length) :
  ColArr ((arr.setIfInBounds (k * 2) (.int .i64 (ps.getD k (0,0)).1)).setIfInBounds (k * 2+1) (.int .i64 (ps.getD k (0,0)).2)) ps (k+1):=by
 obtain ⟨h1,h2,h3⟩:=two_next hs hk (.int .i64 (ps.getD k (0,0)).1) (.int .i64 (ps.getD k (0,0)).2)
 intro i hi
 rcases Nat.lt_or_eq_of_le (Nat.lt_succ_iff.1 hi) with hlt | rfl
 ·exact ⟨(h1 _ (by omega)).trans (h i hlt).1,(h1 _ (by omega)).trans (h i hlt).2⟩
 ·exact ⟨h2,h3⟩
end Go.Proofs.Ytggmjiddadjilaj
namespace Go.Proofs.Ytggmjiddadjilaj
open Go.RowKit

theorem row_since {w w':World} {base:Nat} {e:TypeId} {sz:Nat} {v:Value} {m:Nat} {xs:List Value} (h:w.ownsRow base e sz v m xs) (k:Since base w w'):w'.ownsRow base e sz v m xs :=
 ⟨h.1,h.2.elim Or.inl (fun ⟨g,cap,cur,hv,hg,hc,q⟩=>Or.inr ⟨g,cap,cur,hv,hg,(k.block g hg (Array.getElem?_eq_some_iff.1 hc).1).trans hc,q⟩)⟩
theorem OwnR.since {w w':World} {base:Nat} {v:Value} {ur:List (Value × R)} (h:OwnR w base v ur) (k:Since base w w'):OwnR w' base v ur:=⟨row_since h.own k,fun p hp=>row_since (h.cells p hp) k,h.apart⟩
/-- a table in memory of one's own -/
def OwnT (w:World) (base:Nat) (vc vr:Value) (t:T):Prop:=∃ ur:List (Value × R),ur.map (·.2)=t.rows∧OwnCol w base vc t.cols∧OwnR w base vr ur
theorem OwnT.since {w w':World} {base:Nat} {vc vr:Value} {t:T} (h:OwnT w base vc vr t) (k:Since base w w'):OwnT w' base vc vr t:=by
 obtain ⟨ur,e,a,b⟩:=h
 exact ⟨ur,e,row_since a k,b.since k⟩
theorem OwnT.base {w:World} {base base':Nat} {vc vr:Value} {t:T} (h:OwnT w base vc vr t) (hb:base'≤base):OwnT w base' vc vr t:=by
 obtain ⟨ur,e,a,b⟩:=h
 exact ⟨ur,e,row_base a hb,b.base hb⟩
theorem flat_arr {α:Type} (f:α→List Value) (sz:Nat) (hf:∀ x,(f x).length=sz) (l:List α) (arr:Array Value) (hs:arr.size=l.length * sz) (h:∀ i,(hi:i < l.length)→∀ j,j < sz→arr[i * sz+j]?=(f l[i])[j]?):arr.toList.take (l.length * sz)=l.flatMap f:=by
 rw [List.take_of_length_le (by rw [Array.length_toList,hs];exact Nat.le_refl _)]
 apply List.ext_getElem?
 intro k
 by_cases hk:k < l.length * sz
 ·have hz:0 < sz:=by
   rcases Nat.eq_zero_or_pos sz with h0 | h0
   ·rw [h0] at hk;omega
   ·exact h0
  have h1:k / sz < l.length:=(Nat.div_lt_iff_lt_mul hz).2 hk
  have h2:k % sz < sz:=Nat.mod_lt _ hz
  have e:k=k / sz * sz+k % sz:=by rw [Nat.mul_comm];exact (Nat.div_add_mod k sz).symm
  have a:=h (k / sz) h1 (k % sz) h2
  have b:=flat_get f sz hf l (k / sz) h1 (k % sz) h2
  rw [← e] at a b
  rw [Array.getElem?_toList,a,b]
 ·rw [List.getElem?_eq_none (by rw [Array.length_toList,hs];omega),List.getElem?_eq_none (by rw [flat_len f sz hf];omega)]
/-- rows in an array, the first k of them, each with cells of its own -/
def ArrO (w:World) (z:Nat) (arr:Array Value) (rs:List R) (k:Nat):Prop :=
 ∃ us:List Value,us.length=k∧(∀ i,(hi:i < us.length)→arr[i * 2]?=some us[i]∧arr[i * 2+1]?=some (.bool (rs.getD i dR).whole)∧OwnC w z us[i] (rs.getD i dR).cells)∧us.Pairwise fun p q=>p.ownBlock=none∨p.ownBlock ≠ q.ownBlock
theorem ArrO.zero (w:World) (z:Nat) (arr:Array Value) (rs:List R):ArrO w z arr rs 0:=⟨[],rfl,fun _ hi=>absurd hi (Nat.not_lt_zero _),.nil⟩
theorem ArrO.next {w w':World} {z:Nat} {arr:Array Value} {rs:List R} {k:Nat} (h:ArrO w z arr rs k) (hs:arr.size=rs.length * 2) (hk:k < rs.length) (hz:z≤w.heap.size) (hw:Since z w w') {u:Value} (hu:OwnC w' w.heap.size u (rs.getD k dR).cells) :
  ArrO w' z ((arr.setIfInBounds (k * 2) u).setIfInBounds (k * 2+1) (.bool (rs.getD k dR).whole)) rs (k+1):=by
 obtain ⟨h1,h2,h3⟩:=two_next hs hk u (.bool (rs.getD k dR).whole)
 obtain ⟨us,hl,hg,hp⟩:=h
 refine ⟨us ++ [u],by simp [hl],fun i hi=>?_,?_⟩
 ·rw [List.length_append,List.length_singleton,hl] at hi
  rcases Nat.lt_or_eq_of_le (Nat.lt_succ_iff.1 hi) with hlt | rfl
  ·obtain ⟨e1,e2,e3⟩:=hg i (by omega)
   rw [List.getElem_append_left (by omega)]
   exact ⟨(h1 _ (by omega)).trans e1,(h1 _ (by omega)).trans e2,row_since e3 hw⟩
  ·have e:(us ++ [u])[i]'(by simp [hl])=u:=by
    rw [List.getElem_append_right (by omega)]
    simp
   rw [e]
   exact ⟨h2,h3,row_base hu hz⟩
 ·rw [List.pairwise_append]
  refine ⟨hp,List.pairwise_singleton _ _,fun p hpm q hq=>?_⟩
  rw [List.mem_singleton] at hq
  subst hq
  obtain ⟨i,hi,rfl⟩:=List.mem_iff_getElem.1 hpm
  obtain ⟨_,_,e3⟩:=hg i hi
  cases hb:us[i].ownBlock with
  | none=>exact .inl rfl
  | some b =>
   refine .inr (fun he=>?_)
   have l1:=row_lt e3 hb
   have l2:=row_lt hu he.symm
   omega
theorem ArrO.all {w:World} {z:Nat} {arr:Array Value} {rs:List R} (h:ArrO w (z+1) arr rs rs.length) (hs:arr.size=rs.length * 2) (hg:w.heap[z]?=some (.cells arr 52)) (hm:rs.length≤maxLen) :
  ∃ ur:List (Value × R),ur.map (·.2)=rs∧OwnR w z (.slice (some ⟨z,0,none⟩) rs.length rs.length) ur:=by
 obtain ⟨us,hl,hgt,hp⟩:=h
 have hzl:(us.zip rs).length=rs.length:=by rw [List.length_zip,hl,Nat.min_self]
 refine ⟨us.zip rs,List.map_snd_zip (by omega),⟨?_,fun p hpm=>?_,?_⟩⟩
 ·refine ⟨flat_len rowVs 2 (fun _=>rfl) _,.inr ⟨z,rs.length,arr,by rw [hzl],Nat.le_refl _,hg,by rw [hzl];exact Nat.le_refl _,hm,hs,?_⟩⟩
  refine flat_arr rowVs 2 (fun _=>rfl) (us.zip rs) arr (by rw [hs,hzl]) (fun i hi j hj=>?_)
  rw [hzl] at hi
  obtain ⟨e1,e2,_⟩:=hgt i (by omega)
  rw [getD_get dR hi] at e2
  rw [List.getElem_zip]
  match j,hj with
  | 0,_=>exact e1
  | 1,_=>exact e2
 ·obtain ⟨i,hi,rfl⟩:=List.mem_iff_getElem.1 hpm
  rw [hzl] at hi
  obtain ⟨_,_,e3⟩:=hgt i (by omega)
  rw [getD_get dR hi] at e3
  rw [List.getElem_zip]
  exact row_base e3 (Nat.le_succ _)
 ·rw [List.pairwise_iff_getElem] at hp ⊢
  intro i j hi hj hij
  rw [List.getElem_zip,List.getElem_zip]
  exact hp i j (by omega) (by omega) hij
end Go.Proofs.Ytggmjiddadjilaj
namespace Go.Proofs.Ytggmjiddadjilaj
open Go.RowKit

/-- what lies ahead of B, or at D and behind it, is as it was -/
structure Out (B D:Nat) (w w':World):Prop where
 below:Below B w w'
 block:∀ k,D≤k→k < w.heap.size→w'.heap[k]?=w.heap[k]?
theorem Out.refl (B D:Nat) (w:World):Out B D w w:=⟨Below.refl _ _,fun _ _ _=>rfl⟩
theorem Out.set {B D:Nat} {a w:World} (h:Out B D a w) {p:Addr} (h1:B≤p.block) (h2:p.block < D) (v:Value):Out B D a (w.setCell p v) :=
 ⟨h.below.setCell h1 v,fun k h3 h4=>(Below.heap_setCell _ _ _ _ (by omega)).trans (h.block k h3 h4)⟩
theorem Out.drewN {B D:Nat} {a w:World} (h:Out B D a w) (n:Nat):Out B D a (w.drewN n):=⟨⟨h.below.os,h.below.tape,h.below.output,h.below.size,h.below.block⟩,h.block⟩
end Go.Proofs.Ytggmjiddadjilaj
namespace Go.Proofs.Ytggmjiddadjilaj
open Go.RowKit

/-- a mark's digits, and a mark -/
def digs (n:Nat) (out:ByteArray):ByteArray:=if n=0 then out else digs (n / 10) (⟨#[48+UInt8.ofNat (n % 10)]⟩ ++ out)
termination_by n
decreasing_by omega
def mt (k:Nat):ByteArray:=⟨#[109]⟩ ++ digs k ⟨#[]⟩
/-- a cell of marks -/
def mkC (k:Nat):C:=⟨mt k,(k:Int)+1,(k:Int)+2,(k:Int)+3,(k:Int)+4,(k:Int)+5,(k:Int)+6,(k:Int)+7,(k:Int)+8,(k:Int)+9,(k:Int)+10⟩
def mkCs (n k:Nat):List C:=(List.range n).map fun i=>mkC (k+11 * i)
theorem flat_take {α:Type} (f:α→List Value) (sz:Nat) (hf:∀ x,(f x).length=sz) (l:List α) (arr:Array Value) (hs:l.length * sz≤arr.size) (h:∀ i,(hi:i < l.length)→∀ j,j < sz→arr[i * sz+j]?=(f l[i])[j]?):arr.toList.take (l.length * sz)=l.flatMap f:=by
 have e:=flat_arr f sz hf l (arr.extract 0 (l.length * sz)) (by rw [Array.size_extract];omega) (fun i hi j hj=>by
  have hlt:i * sz+j < l.length * sz:=by
   have:(i+1) * sz≤l.length * sz:=Nat.mul_le_mul_right sz hi
   rw [Nat.succ_mul] at this
   omega
  rw [Array.getElem?_extract,if_pos (by omega),Nat.zero_add]
  exact h i hi j hj)
 rw [← e]
 simp [List.take_take]
theorem grown_refl (w:World) (r:Option Nat):w.grownBy w r:=⟨rfl,rfl,rfl,Nat.le_refl _,fun _ _ _=>rfl⟩
theorem grown_set {a w:World} {g:Nat} (h:a.grownBy w (some g)) {p:Addr} (hp:p.block=g) (v:Value):a.grownBy (w.setCell p v) (some g) :=
 ⟨h.os,h.tape,h.output,by rw [sizeSet];exact h.size,fun k hk hr=>(Below.heap_setCell _ _ _ _ (fun e=>hr (by rw [e,hp]))).trans (h.block k hk hr)⟩
end Go.Proofs.Ytggmjiddadjilaj
namespace Go.Proofs.Ytggmjiddadjilaj
open Go.RowKit

theorem Out.trans {B D:Nat} {a b c:World} (h:Out B D a b) (k:Out B D b c):Out B D a c :=
 ⟨h.below.trans k.below,fun i h1 h2=>(k.block i h1 (Nat.lt_of_lt_of_le h2 h.below.size)).trans (h.block i h1 h2)⟩
theorem Out.alloc {B D:Nat} {a w:World} (h:Out B D a w) (hB:B≤w.heap.size) (o:Obj):Out B D a (w.alloc o) :=
 ⟨h.below.alloc hB o,fun k h1 h2=>(Below.heap_alloc _ _ _ (Nat.lt_of_lt_of_le h2 h.below.size)).trans (h.block k h1 h2)⟩
def mkCol (k:Nat):Int × Int:=((k:Int),(k:Int)+1)
def mkCols (n k:Nat):List (Int × Int):=(List.range n).map fun i=>mkCol (k+2 * i)
def ColArrF (arr:Array Value) (f:Nat→Int × Int) (k:Nat):Prop:=∀ i,i < k→arr[i * 2]?=some (.int .i64 (f i).1)∧arr[i * 2+1]?=some (.int .i64 (f i).2)
theorem ColArrF.next {arr:Array Value} {f:Nat→Int × Int} {k n:Nat} (h:ColArrF arr f k) (hs:arr.size=n * 2) (hk:k < n) :
  ColArrF ((arr.setIfInBounds (k * 2) (.int .i64 (f k).1)).setIfInBounds (k * 2+1) (.int .i64 (f k).2)) f (k+1):=by
 obtain ⟨h1,h2,h3⟩:=two_next hs hk (.int .i64 (f k).1) (.int .i64 (f k).2)
 intro i hi
 rcases Nat.lt_or_eq_of_le (Nat.lt_succ_iff.1 hi) with hlt | rfl
 ·exact ⟨(h1 _ (by omega)).trans (h i hlt).1,(h1 _ (by omega)).trans (h i hlt).2⟩
 ·exact ⟨h2,h3⟩
/-- which number a row's marks begin with -/
def kAt (rs:List R) (k:Nat):Nat→Nat
 | 0=>k
 | i+1=>kAt rs k i+11 * (rs.getD i dR).cells.length+1
def mkR (k:Nat) (r:R):R:=⟨mkCs r.cells.length k,decide ((k+11 * r.cells.length) % 3=0)⟩
def dU:Value × R:=(.slice none 0 0,dR)
/-- the first i of rows marked -/
def mkU (ur:List (Value × R)) (k:Nat):Nat→List (Value × R)
 | 0=>ur
 | i+1=>(mkU ur k i).set i ((ur.getD i dU).1,mkR (kAt (ur.map (·.2)) k i) (ur.getD i dU).2)
/-- one row of a table that is owned: its cells marked, and whether it is whole -/
theorem OwnR.mark {w w1:World} {base:Nat} {v:Value} {ur:List (Value × R)} (h:OwnR w base v ur) {i g cap:Nat} (hv:v=.slice (some ⟨g,0,none⟩) ur.length cap) {p:Value × R} (hi:ur[i]?=some p) {r:R} (hc:OwnC w1 base p.1 r.cells) (k:w.grownBy w1 p.1.ownBlock) :
  OwnR (w1.setCell ⟨g,i * 2+1,none⟩ (.bool r.whole)) base v (ur.set i (p.1,r)):=by
 have hil:i < ur.length:=(List.getElem?_eq_some_iff.1 hi).1
 have hpm:p ∈ ur:=List.mem_of_getElem? hi
 have hne:v.ownBlock=none∨v.ownBlock ≠ p.1.ownBlock:=row_ne h.own (h.cells p hpm) (by decide)
 have hvg:v.ownBlock=some g:=by rw [hv];rfl
 have K1:Off 0 none p.1.ownBlock w w1:=Off.grown k
 have h1:=row_off h.own K1 (Nat.zero_le _) (.inr (by rw [hvg];simp)) hne
 have hS:Off 0 (some g) none w1 (w1.setCell ⟨g,i * 2+1,none⟩ (.bool r.whole)):=Off.set w1 ⟨g,i * 2+1,none⟩ rfl _
 have hcw:OwnC (w1.setCell ⟨g,i * 2+1,none⟩ (.bool r.whole)) base p.1 r.cells:=by
  refine row_off hc hS (Nat.zero_le _) ?_ ?_
  ·rcases row_ne hc h1 (by decide) with e | e
   ·exact .inl e
   ·exact .inr (by rw [← hvg];exact e)
  ·rcases hb:p.1.ownBlock with _ | b
   ·exact .inl rfl
   ·exact .inr (by simp)
 refine ⟨?_,fun q hq=>?_,?_⟩
 ·rcases h1.2 with ⟨e,_⟩ | ⟨g',cap',cur,e,hg',hcur,a1,a2,a3,a4⟩
  ·rw [hv] at e;simp at e
  ·rw [hv] at e
   simp only [Value.slice.injEq,Option.some.injEq,Addr.mk.injEq,and_true,true_and] at e
   obtain ⟨rfl,rfl⟩:=e
   refine ⟨by rw [flat_len rowVs 2 (fun _=>rfl)],.inr ⟨g,cap,cur.setIfInBounds (i * 2+1) (.bool r.whole),by rw [List.length_set];exact hv,hg',setB hcur _,by rw [List.length_set];exact a1,a2,by rw [Array.size_setIfInBounds];exact a3,?_⟩⟩
   refine flat_take rowVs 2 (fun _=>rfl) (ur.set i (p.1,r)) (cur.setIfInBounds (i * 2+1) (.bool r.whole)) (by rw [List.length_set,Array.size_setIfInBounds,a3];omega) (fun j hj0 m hm=>?_)
   have hj:j < ur.length:=by rw [List.length_set] at hj0;exact hj0
   have hold:cur[j * 2+m]?=(rowVs ur[j])[m]?:=by
    have e:=flat_get rowVs 2 (fun _=>rfl) ur j hj m hm
    rw [← a4,List.getElem?_take_of_lt (by omega),Array.getElem?_toList] at e
    exact e
   by_cases hji:j=i
   ·subst hji
    have ep:ur[j]=p:=by rw [List.getElem?_eq_getElem hj] at hi;exact Option.some.inj hi
    rw [List.getElem_set_self]
    match m,hm with
    | 0,_ =>
     rw [Array.getElem?_setIfInBounds_ne (by omega),hold,ep]
     rfl
    | 1,_ =>
     rw [Array.getElem?_setIfInBounds_self_of_lt (by rw [a3];omega)]
     rfl
   ·rw [List.getElem_set_ne (by omega),Array.getElem?_setIfInBounds_ne (by omega)]
    exact hold
 ·obtain ⟨j,hj0,rfl⟩:=List.mem_iff_getElem.1 hq
  have hj:j < ur.length:=by rw [List.length_set] at hj0;exact hj0
  by_cases hji:j=i
  ·subst hji
   rw [List.getElem_set_self]
   exact hcw
  ·rw [List.getElem_set_ne (by omega)]
   have hap:ur[j].1.ownBlock=none∨ur[j].1.ownBlock ≠ p.1.ownBlock:=by
    have ep:ur[i]=p:=by rw [List.getElem?_eq_getElem hil] at hi;exact Option.some.inj hi
    have hp:=List.pairwise_iff_getElem.1 h.apart
    rcases Nat.lt_or_gt_of_ne hji with hl | hl
    ·rw [← ep];exact hp j i hj hil hl
    ·have:=hp i j hil hj hl
     rw [ep] at this
     rcases hb:ur[j].1.ownBlock with _ | b
     ·exact .inl rfl
     ·refine .inr (fun e=>?_)
      rcases this with e1 | e1
      ·rw [e1] at e;cases e
      ·exact e1 (e.symm.trans hb.symm)
   have c1:=row_off (h.cells _ (List.getElem_mem hj)) K1 (Nat.zero_le _) (by rcases hb:ur[j].1.ownBlock with _ | b;exact .inl rfl;exact .inr (by simp)) hap
   refine row_off c1 hS (Nat.zero_le _) ?_ (by rcases hb:ur[j].1.ownBlock with _ | b;exact .inl rfl;exact .inr (by simp))
   rcases row_ne c1 h1 (by decide) with e | e
   ·exact .inl e
   ·exact .inr (by rw [← hvg];exact e)
 ·rw [List.pairwise_iff_getElem]
  have hp:=List.pairwise_iff_getElem.1 h.apart
  have hfst:∀ j,(hj:j < ur.length)→((ur.set i (p.1,r))[j]'(by rw [List.length_set];exact hj)).1=ur[j].1:=fun j hj=>by
   by_cases hji:j=i
   ·subst hji
    rw [List.getElem_set_self,show ur[j]=p by rw [List.getElem?_eq_getElem hj] at hi;exact Option.some.inj hi]
   ·rw [List.getElem_set_ne (by omega)]
  intro a b ha0 hb0 hab
  have ha:a < ur.length:=by rw [List.length_set] at ha0;exact ha0
  have hb:b < ur.length:=by rw [List.length_set] at hb0;exact hb0
  rw [hfst a ha,hfst b hb]
  exact hp a b ha hb hab
end Go.Proofs.Ytggmjiddadjilaj
namespace Go.Proofs.Ytggmjiddadjilaj
open Go.RowKit

theorem map_snd_get {ur:List (Value × R)} {i:Nat} {p:Value × R} (h:ur[i]?=some p):(ur.map (·.2)).getD i dR=p.2:=by simp [List.getD,h]
theorem own_get {w:World} {base:Nat} {v:Value} {ur:List (Value × R)} (h:OwnR w base v ur) {i:Nat} {p:Value × R} (hi:ur[i]?=some p):∃ g cap cur,v=.slice (some ⟨g,0,none⟩) ur.length cap∧ur.length≤cap∧cap≤maxLen∧g < w.heap.size∧base≤g∧w.heap[g]?=some (.cells cur 52)∧cur.size=cap * 2∧cur[i * 2]?=some p.1∧cur[i * 2+1]?=some (.bool p.2.whole):=by
 have hil:i < ur.length:=(List.getElem?_eq_some_iff.1 hi).1
 have ep:ur[i]=p:=by rw [List.getElem?_eq_getElem hil] at hi;exact Option.some.inj hi
 rcases h.own.2 with ⟨_,e⟩ | ⟨g,cap,cur,e,hg,hc,a1,a2,a3,a4⟩
 ·omega
 ·have hold:∀ m,m < 2→cur[i * 2+m]?=(rowVs p)[m]?:=fun m hm=>by
   have e:=flat_get rowVs 2 (fun _=>rfl) ur i hil m hm
   rw [← a4,List.getElem?_take_of_lt (by omega),Array.getElem?_toList,ep] at e
   exact e
  exact ⟨g,cap,cur,e,a1,a2,(Array.getElem?_eq_some_iff.1 hc).1,hg,hc,a3,hold 0 (by omega),hold 1 (by omega)⟩

/-- what is no row and no cell stays -/
def Kty (w w':World):Prop:=∀ (j:Nat) (cur:Array Value) (ty:TypeId),ty ≠ 52→ty ≠ 41→w.heap[j]?=some (.cells cur ty)→w'.heap[j]?=some (.cells cur ty)
theorem Kty.refl (w:World):Kty w w:=fun _ _ _ _ _ h=>h
theorem Kty.trans {a b c:World} (h:Kty a b) (k:Kty b c):Kty a c:=fun j cur ty h1 h2 h3=>k j cur ty h1 h2 (h j cur ty h1 h2 h3)
theorem Kty.cells {w w':World} {B m:Nat} {u:Value} {xs:List Value} (h:w.ownsRow B 41 11 u m xs) (k:w.grownBy w' u.ownBlock):Kty w w':=fun j cur ty _ h2 h3=>by
 refine (k.block j (Array.getElem?_eq_some_iff.1 h3).1 (fun e=>?_)).trans h3
 rcases row_ne_block h h3 (fun e=>h2 e.symm) with h4 | h4
 ·rw [h4] at e;cases e
 ·exact h4 e.symm
theorem Kty.set {w:World} {g o:Nat} {arr:Array Value} (h:w.heap[g]?=some (.cells arr 52)) (v:Value):Kty w (w.setCell ⟨g,o,none⟩ v):=fun j cur ty h1 _ h3=>by
 refine (Below.heap_setCell _ _ _ _ (fun e=>?_)).trans h3
 subst e
 rw [h3] at h
 simp at h
 exact h1 h.2
/-- a table of one's own whose blocks lie ahead of D -/
def OwnD (w:World) (B D:Nat) (vc vr:Value) (cols:List (Int × Int)) (ur:List (Value × R)):Prop:=OwnCol w B vc cols∧OwnR w B vr ur∧(∀ b,vc.ownBlock=some b→b < D)∧(∀ b,vr.ownBlock=some b→b < D)∧∀ p ∈ ur,∀ b,p.1.ownBlock=some b→b < D
theorem OwnD.of {w:World} {B:Nat} {vc vr:Value} {cols:List (Int × Int)} {ur:List (Value × R)} (h1:OwnCol w B vc cols) (h2:OwnR w B vr ur):OwnD w B w.heap.size vc vr cols ur :=
 ⟨h1,h2,fun _ e=>(row_lt h1 e).2,fun _ e=>(row_lt h2.own e).2,fun p hp _ e=>(row_lt (h2.cells p hp) e).2⟩
theorem OwnD.out {w w':World} {B D B' D':Nat} {vc vr:Value} {cols:List (Int × Int)} {ur:List (Value × R)} (h:OwnD w B D vc vr cols ur) (k:Out B' D' w w') (hd:D≤B'∨D'≤B):OwnD w' B D vc vr cols ur:=by
 obtain ⟨h1,h2,h3,h4,h5⟩:=h
 have key:∀ {e:TypeId} {sz:Nat} {v:Value} {m:Nat} {xs:List Value},w.ownsRow B e sz v m xs→(∀ b,v.ownBlock=some b→b < D)→w'.ownsRow B e sz v m xs:=fun h hv=>by
  refine ⟨h.1,h.2.elim Or.inl (fun ⟨g,cap,cur,e,hg,hc,q⟩=>Or.inr ⟨g,cap,cur,e,hg,?_,q⟩)⟩
  have hgD:g < D:=hv g (by rw [e];rfl)
  refine Eq.trans ?_ hc
  rcases hd with hd | hd
  ·exact k.below.block g (by omega)
  ·exact k.block g (by omega) (Array.getElem?_eq_some_iff.1 hc).1
 exact ⟨key h1 h3,⟨key h2.own h4,fun p hp=>key (h2.cells p hp) (h5 p hp),h2.apart⟩,h3,h4,h5⟩
theorem OwnD.kept {w w':World} {B D:Nat} {vc vr:Value} {cols:List (Int × Int)} {ur:List (Value × R)} (h:OwnD w B D vc vr cols ur) (k:Below w.heap.size w w'):OwnD w' B D vc vr cols ur:=by
 have key:∀ {e:TypeId} {sz:Nat} {v:Value} {m:Nat} {xs:List Value},w.ownsRow B e sz v m xs→w'.ownsRow B e sz v m xs:=fun h =>
  ⟨h.1,h.2.elim Or.inl (fun ⟨g,cap,cur,e,hg,hc,q⟩=>Or.inr ⟨g,cap,cur,e,hg,(k.block g (Array.getElem?_eq_some_iff.1 hc).1).trans hc,q⟩)⟩
 exact ⟨key h.1,⟨key h.2.1.own,fun p hp=>key (h.2.1.cells p hp),h.2.1.apart⟩,h.2.2⟩
/-- the number behind a table's last mark -/
def kEnd (cols:List (Int × Int)) (ur:List (Value × R)):Nat:=kAt (ur.map (·.2)) (1+2 * cols.length) ur.length
end Go.Proofs.Ytggmjiddadjilaj
