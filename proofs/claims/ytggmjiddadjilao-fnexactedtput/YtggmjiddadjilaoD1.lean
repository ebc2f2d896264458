/-
  PROVED HERE: small laws on what a call leaves as it was, for the other texts of this claim. Also: what a table is in memory, for the other texts of this claim: cells, columns and rows, each in its place; it stays where what was in memory stays. Also: a slice that can be read lies in memory as 'At' says, whatever its elements are. Also: what a border and a cell of package laws look like where they can be read: their cells, one by one. Also: where a table of package laws can be read, it lies in memory as 'TblAt' says. Also: small laws on blocks of cells in memory, for the other texts of this claim. Also: what the laws' own toBrdLine, toTblCell and szTblCell answer; nothing that was in memory is turned.
-/
import Derived.Test.YtggmjiddadjilaoRows
import Derived.WalkKit
import Derived.ProofKit
import Derived.Below
import Derived.Deep.Draws
import Derived.Deep.Slices
import Derived.WideShapes
import Derived.OpenShut
import Derived.Laws.MakeOwn
import Derived.OwnWalk
import Derived.Lib.SmallJoins
import Derived.WalkLawsBesides
import Derived.WalkSpells
namespace Go.Proofs.Ytggmjiddadjilao
open Go.RowKit

theorem own:ownKnob Try.prog.godebug=none:=by kernel_rfl
theorem laidOut:laidOutB Try.prog=true:=by kernel_rfl
theorem bcell {W w1:World} (hb:Below W.heap.size W w1):(∀ b o,b < W.heap.size→w1.cell? ⟨b,o,none⟩=W.cell? ⟨b,o,none⟩)∧(∀ b o,b < W.heap.size→w1.frozen? ⟨b,o,none⟩=W.frozen? ⟨b,o,none⟩) :=
 ⟨fun b o h=>hb.cell (p:=⟨b,o,none⟩) h,fun b o h=>hb.frozen (p:=⟨b,o,none⟩) h⟩
theorem Hid.intro {p:Prop} (h:p):Hid p:=h
theorem k_alloc {a w:World} (h:Below a.heap.size a w) (o:Obj):Below a.heap.size a (w.alloc o):=h.alloc h.size o
theorem k_drew {a w:World} (h:Below a.heap.size a w):Below a.heap.size a w.drew:=h.drew
theorem k_set {a w:World} (h:Below a.heap.size a w) {p:Addr} (hp:a.heap.size≤p.block) (u:Value):Below a.heap.size a (w.setCell p u):=h.setCell hp u
theorem k_trans {a b c:World} (h:Below a.heap.size a b) (k:Below b.heap.size b c):Below a.heap.size a c:=h.trans (k.mono h.size)
end Go.Proofs.Ytggmjiddadjilao
namespace Go.Proofs.Ytggmjiddadjilao
open Go.RowKit

/-- a cell -/
structure C where
 s:ByteArray
 c:Int
 r:Int
 a1:Int
 b1:Int
 a2:Int
 b2:Int
 a3:Int
 b3:Int
 a4:Int
 b4:Int
/-- a row: its cells, whether it is whole -/
structure R where
 cells:List C
 whole:Bool
/-- a table -/
structure T where
 cols:List (Int × Int)
 head:Int
 foot:Int
 rows:List R
 gap:Int
/-- what stands where no cell, no row is -/
def dC:C:=⟨ByteArray.empty,0,0,0,0,0,0,0,0,0,0⟩
def dR:R:=⟨[],false⟩

/-- the eleven cells of a cell from an address on -/
def CellIs (w:World) (b o:Nat) (x:C):Prop :=
 w.cell? ⟨b,o,none⟩=some (.string x.s)∧w.cell? ⟨b,o+1,none⟩=some (.int .i64 x.c)∧w.cell? ⟨b,o+2,none⟩=some (.int .i64 x.r) ∧
 w.cell? ⟨b,o+3,none⟩=some (.int .i64 x.a1)∧w.cell? ⟨b,o+4,none⟩=some (.int .i64 x.b1)∧w.cell? ⟨b,o+5,none⟩=some (.int .i64 x.a2)∧w.cell? ⟨b,o+6,none⟩=some (.int .i64 x.b2) ∧
 w.cell? ⟨b,o+7,none⟩=some (.int .i64 x.a3)∧w.cell? ⟨b,o+8,none⟩=some (.int .i64 x.b3)∧w.cell? ⟨b,o+9,none⟩=some (.int .i64 x.a4)∧w.cell? ⟨b,o+10,none⟩=some (.int .i64 x.b4)

/-- a slice whose elements, sz cells each, are such; they lie in block z or behind it -/
def At (w:World) (z:Nat) (v:Value) (n sz:Nat) (E:Nat→Nat→Nat→Prop):Prop :=
 ∃ (a:Option Addr) (cap:Nat),v=.slice a n cap∧n≤cap∧cap≤maxLen∧∀ i,i < n→∃ b off,a=some ⟨b,off,none⟩∧b < w.heap.size∧z≤b∧E i b (off+i * sz)

def CellsAt (w:World) (z:Nat) (v:Value) (cs:List C):Prop:=At w z v cs.length 11 (fun i b o=>CellIs w b o (cs.getD i dC)∧(cs.getD i dC).s.size≤maxLen)
def ColsAt (w:World) (z:Nat) (v:Value) (ps:List (Int × Int)):Prop:=At w z v ps.length 2 (fun i b o=>w.cell? ⟨b,o,none⟩=some (.int .i64 (ps.getD i (0,0)).1)∧w.cell? ⟨b,o+1,none⟩=some (.int .i64 (ps.getD i (0,0)).2))
def RowsAt (w:World) (z:Nat) (v:Value) (rs:List R):Prop:=At w z v rs.length 2 (fun i b o=>∃ u,w.cell? ⟨b,o,none⟩=some u∧w.cell? ⟨b,o+1,none⟩=some (.bool (rs.getD i dR).whole)∧CellsAt w z u (rs.getD i dR).cells)
def TblAt (w:World) (z:Nat) (v:Value) (t:T):Prop:=∃ vc vr,v=.agg #[vc,.int .i64 t.head,.int .i64 t.foot,vr,.int .i64 t.gap]∧ColsAt w z vc t.cols∧RowsAt w z vr t.rows

/-- what lies from block z on is as it was -/
structure Since (z:Nat) (w w':World):Prop where
 size:w.heap.size≤w'.heap.size
 block:∀ k,z≤k→k < w.heap.size→w'.heap[k]?=w.heap[k]?
theorem Since.of_below {z:Nat} {w w':World} (h:Below w.heap.size w w'):Since z w w':=⟨h.size,fun k _ hk=>h.block k hk⟩
theorem Since.refl (z:Nat) (w:World):Since z w w:=⟨Nat.le_refl _,fun _ _ _=>rfl⟩
theorem Since.trans {z:Nat} {a b c:World} (h:Since z a b) (k:Since z b c):Since z a c:=⟨Nat.le_trans h.size k.size,fun i h1 h2=>(k.block i h1 (Nat.lt_of_lt_of_le h2 h.size)).trans (h.block i h1 h2)⟩
theorem Since.set {z:Nat} {a w:World} (h:Since z a w) {p:Addr} (hp:p.block < z) (v:Value):Since z a (w.setCell p v) :=
 ⟨by simpa [World.setCell] using h.size,fun k h1 h2=>(Below.heap_setCell _ _ _ _ (by omega)).trans (h.block k h1 h2)⟩
theorem Since.alloc {z:Nat} {a w:World} (h:Since z a w) (o:Obj):Since z a (w.alloc o):=h.trans (Since.of_below (k_alloc (Below.refl _ _) _))
theorem Since.cell {z:Nat} {w w':World} (h:Since z w w') {b:Nat} (h1:z≤b) (h2:b < w.heap.size) (p:Nat):w'.cell? ⟨b,p,none⟩=w.cell? ⟨b,p,none⟩:=World.cell?_of_block (w:=w) (a:=⟨b,p,none⟩) (h.block b h1 h2)

theorem At.mono {w w':World} {z z':Nat} {v:Value} {n sz:Nat} {E E':Nat→Nat→Nat→Prop} (h:At w z v n sz E) (hz:w.heap.size≤w'.heap.size) (hzz:z'≤z) (hE:∀ i b o,i < n→b < w.heap.size→z≤b→E i b o→E' i b o):At w' z' v n sz E':=by
 obtain ⟨a,cap,e,h1,h2,hx⟩:=h
 refine ⟨a,cap,e,h1,h2,fun i hi=>?_⟩
 obtain ⟨b,off,ea,hb,hzb,he⟩:=hx i hi
 exact ⟨b,off,ea,Nat.lt_of_lt_of_le hb hz,Nat.le_trans hzz hzb,hE i b _ hi hb hzb he⟩
theorem CellIs.since {w w':World} {z b o:Nat} {x:C} (h:CellIs w b o x) (hb:b < w.heap.size) (hz:z≤b) (k:Since z w w'):CellIs w' b o x:=by
 unfold CellIs at h ⊢
 simp only [k.cell hz hb]
 exact h
theorem CellsAt.since {w w':World} {z:Nat} {v:Value} {cs:List C} (h:CellsAt w z v cs) (k:Since z w w'):CellsAt w' z v cs :=
 At.mono h k.size (Nat.le_refl _) (fun _ _ _ _ hb hz he=>⟨he.1.since hb hz k,he.2⟩)
theorem ColsAt.since {w w':World} {z:Nat} {v:Value} {cs:List (Int × Int)} (h:ColsAt w z v cs) (k:Since z w w'):ColsAt w' z v cs :=
 At.mono h k.size (Nat.le_refl _) (fun _ _ _ _ hb hz he=>⟨(k.cell hz hb _).trans he.1,(k.cell hz hb _).trans he.2⟩)
theorem RowsAt.since {w w':World} {z:Nat} {v:Value} {rs:List R} (h:RowsAt w z v rs) (k:Since z w w'):RowsAt w' z v rs :=
 At.mono h k.size (Nat.le_refl _) (fun _ _ _ _ hb hz ⟨u,h1,h2,h3⟩=>⟨u,(k.cell hz hb _).trans h1,(k.cell hz hb _).trans h2,h3.since k⟩)
theorem TblAt.since {w w':World} {z:Nat} {v:Value} {t:T} (h:TblAt w z v t) (k:Since z w w'):TblAt w' z v t:=by
 obtain ⟨vc,vr,e,h1,h2⟩:=h
 exact ⟨vc,vr,e,h1.since k,h2.since k⟩
theorem CellsAt.kept {w w':World} {z:Nat} {v:Value} {cs:List C} (h:CellsAt w z v cs) (k:Below w.heap.size w w'):CellsAt w' z v cs:=h.since (.of_below k)
theorem ColsAt.kept {w w':World} {z:Nat} {v:Value} {cs:List (Int × Int)} (h:ColsAt w z v cs) (k:Below w.heap.size w w'):ColsAt w' z v cs:=h.since (.of_below k)
theorem RowsAt.kept {w w':World} {z:Nat} {v:Value} {rs:List R} (h:RowsAt w z v rs) (k:Below w.heap.size w w'):RowsAt w' z v rs:=h.since (.of_below k)
theorem TblAt.kept {w w':World} {z:Nat} {v:Value} {t:T} (h:TblAt w z v t) (k:Below w.heap.size w w'):TblAt w' z v t:=h.since (.of_below k)
theorem CellsAt.base {w:World} {z z':Nat} {v:Value} {cs:List C} (h:CellsAt w z v cs) (hz:z'≤z):CellsAt w z' v cs:=At.mono h (Nat.le_refl _) hz (fun _ _ _ _ _ _ he=>he)
theorem ColsAt.base {w:World} {z z':Nat} {v:Value} {cs:List (Int × Int)} (h:ColsAt w z v cs) (hz:z'≤z):ColsAt w z' v cs:=At.mono h (Nat.le_refl _) hz (fun _ _ _ _ _ _ he=>he)
theorem RowsAt.base {w:World} {z z':Nat} {v:Value} {rs:List R} (h:RowsAt w z v rs) (hz:z'≤z):RowsAt w z' v rs:=At.mono h (Nat.le_refl _) hz (fun _ _ _ _ _ _ ⟨u,h1,h2,h3⟩=>⟨u,h1,h2,h3.base hz⟩)
/-- The element at a place: for a walk. -/
theorem At.get {w:World} {z:Nat} {v:Value} {n sz:Nat} {E:Nat→Nat→Nat→Prop} (h:At w z v n sz E) {i:Nat} (hi:i < n):∃ b off cap,v=.slice (some ⟨b,off,none⟩) n cap∧n≤cap∧cap≤maxLen∧b < w.heap.size∧E i b (off+i * sz):=by
 obtain ⟨a,cap,e,h1,h2,hx⟩:=h
 obtain ⟨b,off,rfl,hb,_,he⟩:=hx i hi
 exact ⟨b,off,cap,e,h1,h2,hb,he⟩
theorem At.form {w:World} {z:Nat} {v:Value} {n sz:Nat} {E:Nat→Nat→Nat→Prop} (h:At w z v n sz E):∃ a cap,v=.slice a n cap∧n≤maxLen:=by
 obtain ⟨a,cap,e,h1,h2,_⟩:=h
 exact ⟨a,cap,e,Nat.le_trans h1 h2⟩
theorem sum_take_succ {α:Type} (f:α→Nat) (l:List α) (k:Nat) (h:k < l.length):((l.take (k+1)).map f).sum=((l.take k).map f).sum+f l[k]:=by
 rw [List.take_succ_eq_append_getElem h,List.map_append,List.sum_append]
 simp only [List.map_cons,List.map_nil,List.sum_cons,List.sum_nil,Nat.add_zero]
theorem sum_take_le {α:Type} (f:α→Nat) (l:List α) (k:Nat):((l.take k).map f).sum≤(l.map f).sum:=by
 have h:(l.map f).sum=((l.take k).map f).sum+((l.drop k).map f).sum:=by
  conv=>lhs;rw [← List.take_append_drop k l,List.map_append,List.sum_append]
 omega

/-- how much cells, rows, a table are: as the laws count it -/
def totC:List C→Nat
 | []=>0
 | x :: r=>1+x.s.size+totC r
def totR:List R→Nat
 | []=>0
 | x :: r=>1+totC x.cells+totR r
def totT (t:T):Nat:=t.cols.length+totR t.rows
/-- the texts of the first k cells together -/
def szTo (cs:List C) (k:Nat):Nat:=((cs.take k).map (fun x=>x.s.size)).sum
theorem szTo_succ {cs:List C} {k:Nat} (h:k < cs.length):szTo cs (k+1)=szTo cs k+(cs.getD k dC).s.size:=by
 have e:cs.getD k dC=cs[k]:=by simp [List.getD,h]
 rw [e]
 exact sum_take_succ (fun x=>x.s.size) cs k h
theorem totC_eq (cs:List C):totC cs=cs.length+szTo cs cs.length:=by
 unfold szTo
 rw [List.take_length]
 induction cs with
 | nil=>rfl
 | cons x r ih=>simp [totC] at ih ⊢;omega
def rwTo (rs:List R) (k:Nat):Nat:=((rs.take k).map (fun x=>totC x.cells)).sum
theorem rwTo_succ {rs:List R} {k:Nat} (h:k < rs.length):rwTo rs (k+1)=rwTo rs k+totC (rs.getD k dR).cells:=by
 have e:rs.getD k dR=rs[k]:=by simp [List.getD,h]
 rw [e]
 exact sum_take_succ (fun x=>totC x.cells) rs k h
theorem totR_eq (rs:List R):totR rs=rs.length+rwTo rs rs.length:=by
 unfold rwTo
 rw [List.take_length]
 induction rs with
 | nil=>rfl
 | cons x r ih=>simp [totR] at ih ⊢;omega
theorem szTo_le (cs:List C) (k:Nat):szTo cs k≤szTo cs cs.length:=by
 have:=sum_take_le (fun x:C=>x.s.size) cs k
 unfold szTo
 rw [List.take_length]
 exact this
theorem rwTo_le (rs:List R) (k:Nat):rwTo rs k≤rwTo rs rs.length:=by
 have:=sum_take_le (fun x:R=>totC x.cells) rs k
 unfold rwTo
 rw [List.take_length]
 exact this
end Go.Proofs.Ytggmjiddadjilao
namespace Go.Proofs.Ytggmjiddadjilao
open Go.RowKit Go.ChangeShapes Go.Deep

theorem some_of {α:Type} {xs:List α} {i:Nat} {n:Nat} (hl:xs.length=n) (hi:i < n):∃ y,xs[i]?=some y:=⟨_,List.getElem?_eq_getElem (by omega)⟩
theorem choose_list {α:Type} (d:α) (P:Nat→α→Prop):∀ n,(∀ i,i < n→∃ x,P i x)→∃ l:List α,l.length=n∧∀ i,i < n→P i (l.getD i d)
 | 0,_=>⟨[],rfl,fun i hi=>absurd hi (Nat.not_lt_zero _)⟩
 | n+1,h=>by
  obtain ⟨l,hl,hp⟩:=choose_list d P n (fun i hi=>h i (Nat.lt_succ_of_lt hi))
  obtain ⟨x,hx⟩:=h n (Nat.lt_succ_self _)
  refine ⟨l ++ [x],by simp [hl],fun i hi=>?_⟩
  rcases Nat.lt_or_eq_of_le (Nat.lt_succ_iff.1 hi) with h1 | h1
  ·have e:(l ++ [x]).getD i d=l.getD i d:=by simp [List.getD,List.getElem?_append_left (by omega:i < l.length)]
   rw [e];exact hp i h1
  ·subst h1
   have e:(l ++ [x]).getD i d=x:=by simp [List.getD,← hl]
   rw [e];exact hx

section
variable {H:Type} {enc:TypeId × Value→H} {w:World} {spare:Nat→Bool} {held:Bool}

theorem spot_none {a:Addr} {sz:Nat} {cs:List Value} (hs:0 < sz) (h:w.cells? 0 (a.add (0 * sz)) sz=some cs):∃ b off,a=⟨b,off,none⟩:=by
 obtain ⟨b,off,spot⟩:=a
 obtain ⟨_,hl,hc⟩:=World.cells?_some h
 have h0:=hc 0 hs
 rw [List.getElem?_eq_getElem (by omega)] at h0
 have hsp:=World.cell?_spot h0
 simp [Addr.add] at hsp
 exact ⟨b,off,by rw [hsp]⟩
/-- the cells of an element of a slice, one by one -/
theorem elem_cells {b off i sz:Nat} {cs:List Value} (hs:0 < sz) (h:w.cells? 0 ((⟨b,off,none⟩:Addr).add (i * sz)) sz=some cs):b < w.heap.size∧cs.length=sz∧∀ j,j < sz→w.cell? ⟨b,off+i * sz+j,none⟩=cs[j]?:=by
 rw [Go.WideShapes.add_plain] at h
 have hb:=World.cells?_block h hs
 obtain ⟨_,hl,hc⟩:=World.cells?_some h
 exact ⟨hb,hl,fun j hj=>by rw [← Go.WideShapes.add_plain b (off+i * sz) j];exact hc j hj⟩

/-- a slice that can be read, whatever its elements are -/
theorem open_at {α:Type} {t e:TypeId} {fuel sz:Nat} {cs:List Value} {x:DataW H × List MemPlace} (d:α) (ht:Try.prog.underlying t=some (.slice e)) (hc:Try.prog.cellsOf e=sz) (hs:0 < sz)
  (E:α→Nat→Nat→Prop)
  (hE:∀ (n b o:Nat) (cs':List Value) (y:DataW H × List MemPlace),DataW.trod enc Try.prog w 0 spare held n e cs'=some y→(∀ j,j < sz→w.cell? ⟨b,o+j,none⟩=cs'[j]?)→∃ x,E x b o)
  (h:DataW.trod enc Try.prog w 0 spare held fuel t cs=some x):∃ (v:Value) (l:List α),cs=[v]∧At w 0 v l.length sz (fun i b o=>E (l.getD i d) b o):=by
 rcases open_slice ht h with ⟨hcs,_⟩ | ⟨a,len,cap,m,n,D,Pl,hcs,_,hl,hm,hmm,_,hx⟩
 ·exact ⟨_,[],hcs,⟨none,0,rfl,Nat.le_refl _,Nat.zero_le _,fun i hi=>absurd hi (Nat.not_lt_zero _)⟩⟩
 ·rw [hc] at hx
  have hlm:len≤m:=by rw [hmm];split <;> omega
  rcases Nat.eq_zero_or_pos len with h0 | h0
  ·subst h0
   exact ⟨_,[],hcs,⟨some a,cap,rfl,Nat.zero_le _,hm,fun i hi=>absurd hi (Nat.not_lt_zero _)⟩⟩
  ·obtain ⟨cs0,hc0,_⟩:=hx 0 (by omega)
   obtain ⟨b,off,rfl⟩:=spot_none hs hc0
   obtain ⟨l,hll,hp⟩:=choose_list d (fun i x=>b < w.heap.size∧E x b (off+i * sz)) len (fun i hi=>by
    obtain ⟨cs',h1,h2⟩:=hx i (by omega)
    obtain ⟨hb,_,hcell⟩:=elem_cells hs h1
    obtain ⟨x,hx⟩:=hE _ b (off+i * sz) cs' _ h2 hcell
    exact ⟨x,hb,hx⟩)
   refine ⟨_,l,hcs,⟨some ⟨b,off,none⟩,cap,by rw [hll],by omega,hm,fun i hi=>?_⟩⟩
   obtain ⟨hb,hx⟩:=hp i (by omega)
   exact ⟨b,off,rfl,hb,Nat.zero_le _,hx⟩
end
end Go.Proofs.Ytggmjiddadjilao
namespace Go.Proofs.Ytggmjiddadjilao
open Go.RowKit Go.ChangeShapes

theorem cInt:Try.prog.cellsOf 3=1:=by kernel_rfl
theorem cStr:Try.prog.cellsOf 9=1:=by kernel_rfl
theorem cBrdL:Try.prog.cellsOf 48=2:=by kernel_rfl
theorem cCellL:Try.prog.cellsOf 50=11:=by kernel_rfl

section
variable {H:Type} {enc:TypeId × Value→H} {w:World} {base:Nat} {spare:Nat→Bool} {held:Bool}

set_option maxRecDepth 100000 in
theorem openBrdL {fuel:Nat} {cs:List Value} {x:DataW H × List MemPlace} (h:DataW.trod enc Try.prog w base spare held fuel 48 cs=some x):∃ a b:Int,cs=[.int .i64 a,.int .i64 b]:=by
 obtain ⟨y0,y1,n,_,hl,h0,h1⟩:=trod_struct2 Try.underlying48 h
 rw [cBrdL] at hl
 match cs,hl with
 | [c0,c1],_ =>
  simp [cInt] at h0 h1
  obtain ⟨a,e0,_,_⟩:=DataW.trod_int Try.underlying3 h0
  obtain ⟨b,e1,_,_⟩:=DataW.trod_int Try.underlying3 h1
  simp at e0 e1
  exact ⟨a,b,by rw [e0,e1]⟩

set_option maxRecDepth 100000 in
theorem openCellL {fuel:Nat} {cs:List Value} {x:DataW H × List MemPlace} (h:DataW.trod enc Try.prog w base spare held fuel 50 cs=some x) :
  ∃ (s:ByteArray) (c r a1 b1 a2 b2 a3 b3 a4 b4:Int),s.size≤maxLen∧cs=[.string s,.int .i64 c,.int .i64 r,.int .i64 a1,.int .i64 b1,.int .i64 a2,.int .i64 b2,.int .i64 a3,.int .i64 b3,.int .i64 a4,.int .i64 b4]:=by
 obtain ⟨xs,n,_,_,hl,hlen,hf⟩:=DataW.trod_struct Try.underlying50 h
 rw [cCellL] at hl
 simp at hlen
 match cs,hl with
 | [c0,c1,c2,c3,c4,c5,c6,c7,c8,c9,c10],_ =>
  obtain ⟨y0,k0⟩:=some_of (i:=0) hlen (by omega)
  obtain ⟨y1,k1⟩:=some_of (i:=1) hlen (by omega)
  obtain ⟨y2,k2⟩:=some_of (i:=2) hlen (by omega)
  obtain ⟨y3,k3⟩:=some_of (i:=3) hlen (by omega)
  obtain ⟨y4,k4⟩:=some_of (i:=4) hlen (by omega)
  obtain ⟨y5,k5⟩:=some_of (i:=5) hlen (by omega)
  obtain ⟨y6,k6⟩:=some_of (i:=6) hlen (by omega)
  have f0:=(hf 0 _ rfl).trans k0
  have f1:=(hf 1 _ rfl).trans k1
  have f2:=(hf 2 _ rfl).trans k2
  have f3:=(hf 3 _ rfl).trans k3
  have f4:=(hf 4 _ rfl).trans k4
  have f5:=(hf 5 _ rfl).trans k5
  have f6:=(hf 6 _ rfl).trans k6
  simp [cInt,cStr,cBrdL] at f0 f1 f2 f3 f4 f5 f6
  obtain ⟨s,e0,_,hs⟩:=DataW.trod_string Try.underlying9 f0
  obtain ⟨c,e1,_,_⟩:=DataW.trod_int Try.underlying3 f1
  obtain ⟨r,e2,_,_⟩:=DataW.trod_int Try.underlying3 f2
  obtain ⟨a1,b1,e3⟩:=openBrdL f3
  obtain ⟨a2,b2,e4⟩:=openBrdL f4
  obtain ⟨a3,b3,e5⟩:=openBrdL f5
  obtain ⟨a4,b4,e6⟩:=openBrdL f6
  simp at e0 e1 e2 e3 e4 e5 e6
  exact ⟨s,c,r,a1,b1,a2,b2,a3,b3,a4,b4,hs,by rw [e0,e1,e2,e3.1,e3.2,e4.1,e4.2,e5.1,e5.2,e6.1,e6.2]⟩
end
end Go.Proofs.Ytggmjiddadjilao
namespace Go.Proofs.Ytggmjiddadjilao
open Go.RowKit Go.ChangeShapes Go.Deep

theorem cBool:Try.prog.cellsOf 4=1:=by kernel_rfl
theorem cColL:Try.prog.cellsOf 124=2:=by kernel_rfl
theorem cRowL:Try.prog.cellsOf 117=2:=by kernel_rfl
theorem cSlC:Try.prog.cellsOf 115=1:=by kernel_rfl
theorem cSlK:Try.prog.cellsOf 43=1:=by kernel_rfl
theorem cSlR:Try.prog.cellsOf 44=1:=by kernel_rfl
theorem cTblL:Try.prog.cellsOf 46=5:=by kernel_rfl

section
variable {H:Type} {enc:TypeId × Value→H} {w:World} {spare:Nat→Bool} {held:Bool}

theorem openCellsL {fuel:Nat} {cs:List Value} {x:DataW H × List MemPlace} (h:DataW.trod enc Try.prog w 0 spare held fuel 115 cs=some x):∃ (v:Value) (l:List C),cs=[v]∧CellsAt w 0 v l:=by
 refine open_at (α:=C) dC Try.underlying115 cCellL (by omega) (fun x b o=>CellIs w b o x∧x.s.size≤maxLen) (fun n b o cs' y hy hc=>?_) h
 obtain ⟨s,c,r,a1,b1,a2,b2,a3,b3,a4,b4,hs,rfl⟩:=openCellL hy
 exact ⟨⟨s,c,r,a1,b1,a2,b2,a3,b3,a4,b4⟩,⟨hc 0 (by omega),hc 1 (by omega),hc 2 (by omega),hc 3 (by omega),hc 4 (by omega),hc 5 (by omega),hc 6 (by omega),hc 7 (by omega),hc 8 (by omega),hc 9 (by omega),hc 10 (by omega)⟩,hs⟩

set_option maxRecDepth 100000 in
theorem openColsL {fuel:Nat} {cs:List Value} {x:DataW H × List MemPlace} (h:DataW.trod enc Try.prog w 0 spare held fuel 43 cs=some x):∃ (v:Value) (l:List (Int × Int)),cs=[v]∧ColsAt w 0 v l:=by
 refine open_at (α:=Int × Int) (0,0) Try.underlying43 cColL (by omega) (fun x b o=>w.cell? ⟨b,o,none⟩=some (.int .i64 x.1)∧w.cell? ⟨b,o+1,none⟩=some (.int .i64 x.2)) (fun n b o cs' y hy hc=>?_) h
 obtain ⟨y0,y1,m,_,hl,h0,h1⟩:=trod_struct2 Try.underlying124 hy
 rw [cColL] at hl
 match cs',hl with
 | [c0,c1],_ =>
  simp [cInt] at h0 h1
  obtain ⟨a,e0,_,_⟩:=DataW.trod_int Try.underlying3 h0
  obtain ⟨b',e1,_,_⟩:=DataW.trod_int Try.underlying3 h1
  simp at e0 e1
  subst e0 e1
  exact ⟨(a,b'),hc 0 (by omega),hc 1 (by omega)⟩

set_option maxRecDepth 100000 in
theorem openRowsL {fuel:Nat} {cs:List Value} {x:DataW H × List MemPlace} (h:DataW.trod enc Try.prog w 0 spare held fuel 44 cs=some x):∃ (v:Value) (l:List R),cs=[v]∧RowsAt w 0 v l:=by
 refine open_at (α:=R) dR Try.underlying44 cRowL (by omega) (fun x b o=>∃ u,w.cell? ⟨b,o,none⟩=some u∧w.cell? ⟨b,o+1,none⟩=some (.bool x.whole)∧CellsAt w 0 u x.cells) (fun n b o cs' y hy hc=>?_) h
 obtain ⟨y0,y1,m,_,hl,h0,h1⟩:=trod_struct2 Try.underlying117 hy
 rw [cRowL] at hl
 match cs',hl with
 | [c0,c1],_ =>
  simp [cSlC,cBool] at h0 h1
  obtain ⟨v,l,e0,hv⟩:=openCellsL h0
  obtain ⟨q,e1,_⟩:=DataW.trod_bool Try.underlying4 h1
  simp at e0 e1
  subst e0 e1
  exact ⟨⟨l,q⟩,c0,hc 0 (by omega),hc 1 (by omega),hv⟩

set_option maxRecDepth 100000 in
theorem openTblL {fuel:Nat} {cs:List Value} {x:DataW H × List MemPlace} (h:DataW.trod enc Try.prog w 0 spare held fuel 46 cs=some x):∃ t:T,TblAt w 0 (.agg cs.toArray) t:=by
 obtain ⟨xs,n,_,_,hl,hlen,hf⟩:=DataW.trod_struct Try.underlying46 h
 rw [cTblL] at hl
 simp at hlen
 match cs,hl with
 | [c0,c1,c2,c3,c4],_ =>
  obtain ⟨y0,k0⟩:=some_of (i:=0) hlen (by omega)
  obtain ⟨y1,k1⟩:=some_of (i:=1) hlen (by omega)
  obtain ⟨y2,k2⟩:=some_of (i:=2) hlen (by omega)
  obtain ⟨y3,k3⟩:=some_of (i:=3) hlen (by omega)
  obtain ⟨y4,k4⟩:=some_of (i:=4) hlen (by omega)
  have f0:=(hf 0 _ rfl).trans k0
  have f1:=(hf 1 _ rfl).trans k1
  have f2:=(hf 2 _ rfl).trans k2
  have f3:=(hf 3 _ rfl).trans k3
  have f4:=(hf 4 _ rfl).trans k4
  simp [cInt,cSlK,cSlR] at f0 f1 f2 f3 f4
  obtain ⟨vc,lc,e0,hvc⟩:=openColsL f0
  obtain ⟨hd,e1,_,_⟩:=DataW.trod_int Try.underlying3 f1
  obtain ⟨ft,e2,_,_⟩:=DataW.trod_int Try.underlying3 f2
  obtain ⟨vr,lr,e3,hvr⟩:=openRowsL f3
  obtain ⟨gp,e4,_,_⟩:=DataW.trod_int Try.underlying3 f4
  simp at e0 e1 e2 e3 e4
  subst e0 e1 e2 e3 e4
  exact ⟨⟨lc,hd,ft,lr,gp⟩,c0,c3,rfl,hvc,hvr⟩
end
end Go.Proofs.Ytggmjiddadjilao
namespace Go.Proofs.Ytggmjiddadjilao
open Go.RowKit

theorem sizeSet (w:World) (p:Addr) (v:Value):(w.setCell p v).heap.size=w.heap.size:=by simp [World.setCell]
theorem newestB (w:World) (q:Obj):(w.alloc q).heap[w.heap.size]?=some q:=by show (w.heap.push q)[w.heap.size]?=_;simp
theorem cellB {w:World} {g p:Nat} {arr:Array Value} {t:TypeId} (h:w.heap[g]?=some (.cells arr t)):w.cell? ⟨g,p,none⟩=arr[p]?:=Joins.cell_of_block h p
theorem someB {w:World} {g p:Nat} {arr:Array Value} {t:TypeId} (h:w.heap[g]?=some (.cells arr t)) (hp:p < arr.size):∃ v,w.cell? ⟨g,p,none⟩=some v:=⟨_,(cellB h).trans (Array.getElem?_eq_getElem hp)⟩
theorem freeB {w:World} {g p:Nat} {arr:Array Value} {t:TypeId} (h:w.heap[g]?=some (.cells arr t)):w.frozen? ⟨g,p,none⟩=false:=Joins.unfrozen_of_block h p
theorem setB {w:World} {g p:Nat} {arr:Array Value} {t:TypeId} (h:w.heap[g]?=some (.cells arr t)) (v:Value):(w.setCell ⟨g,p,none⟩ v).heap[g]?=some (.cells (arr.setIfInBounds p v) t):=Joins.block_setCell h v
theorem two_next {arr:Array Value} {n k:Nat} (hs:arr.size=n * 2) (hk:k < n) (x y:Value) :
  (∀ p,p < k * 2→((arr.setIfInBounds (k * 2) x).setIfInBounds (k * 2+1) y)[p]?=arr[p]?)∧((arr.setIfInBounds (k * 2) x).setIfInBounds (k * 2+1) y)[k * 2]?=some x∧((arr.setIfInBounds (k * 2) x).setIfInBounds (k * 2+1) y)[k * 2+1]?=some y:=by
 have eq:∀ (A:Array Value) (i:Nat) (v:Value),i < A.size→(A.setIfInBounds i v)[i]?=some v:=fun A i v hi=>by simp [hi]
 refine ⟨fun p hp=>?_,?_,?_⟩
 ·rw [Array.getElem?_setIfInBounds_ne (by omega),Array.getElem?_setIfInBounds_ne (by omega)]
 ·rw [Array.getElem?_setIfInBounds_ne (by omega)]
  exact eq _ _ _ (by omega)
 ·exact eq _ _ _ (by rw [Array.size_setIfInBounds];omega)
/-- what is left of n behind m: -1, if that is less than nothing -/
def leftOf (n:Int) (m:Nat):Int:=if (m:Int)≤n then n - m else -1
theorem leftOf_pos {n:Int} {m:Nat} (h:(m:Int)≤n):leftOf n m=n - m:=by rw [leftOf,if_pos h]
theorem leftOf_neg {n:Int} {m:Nat} (h:¬ (m:Int)≤n):leftOf n m=-1:=by rw [leftOf,if_neg h]
end Go.Proofs.Ytggmjiddadjilao
namespace Go.Proofs.Ytggmjiddadjilao
open Go.RowKit

theorem toBrdLine_any (a b:Int) (w:World) :
  Calls Try.prog 51 #[.agg #[.int .i64 a,.int .i64 b]] w fun e w'=>e=.returned (.agg #[.int .i64 a,.int .i64 b])∧Below w.heap.size w w':=by
 go_enter Try.func51,Try.ntmps51
 go_wp2
 refine bodyPost_ret (v:=.agg #[.int .i64 a,.int .i64 b]) (by simp [results,Try.results51,go_sem]) rfl ⟨rfl,?_⟩
 exact k_alloc (k_alloc (k_alloc (Below.refl _ _) _) _) _

set_option maxRecDepth 100000 in
set_option maxHeartbeats 1000000 in
theorem toTblCell_any (s:ByteArray) (c r a1 b1 a2 b2 a3 b3 a4 b4:Int) (w:World) :
  Calls Try.prog 24 #[.agg #[.string s,.int .i64 c,.int .i64 r,.int .i64 a1,.int .i64 b1,.int .i64 a2,.int .i64 b2,.int .i64 a3,.int .i64 b3,.int .i64 a4,.int .i64 b4]] w
   fun e w'=>e=.returned (.agg #[.string s,.int .i64 c,.int .i64 r,.int .i64 a1,.int .i64 b1,.int .i64 a2,.int .i64 b2,.int .i64 a3,.int .i64 b3,.int .i64 a4,.int .i64 b4])∧Below w.heap.size w w':=by
 go_enter Try.func24,Try.ntmps24
 go_wp2_with fail
 refine (toBrdLine_any _ _ _).mono ?_
 rintro e w1 ⟨rfl,hb1⟩
 obtain ⟨hc1,hf1⟩:=bcell hb1
 have hz1:w.heap.size+1+1 < w1.heap.size:=by have:=hb1.size;simp at this;omega
 have hy1:w.heap.size+1 < w1.heap.size:=by omega
 have hx1:w.heap.size < w1.heap.size:=by omega
 go_wp2_with fail
 refine (toBrdLine_any _ _ _).mono ?_
 rintro e w2 ⟨rfl,hb2⟩
 obtain ⟨hc2,hf2⟩:=bcell hb2
 have hz2:w.heap.size+1+1 < w2.heap.size:=by have:=hb2.size;simp at this;omega
 have hy2:w.heap.size+1 < w2.heap.size:=by omega
 have hx2:w.heap.size < w2.heap.size:=by omega
 go_wp2_with fail
 refine (toBrdLine_any _ _ _).mono ?_
 rintro e w3 ⟨rfl,hb3⟩
 obtain ⟨hc3,hf3⟩:=bcell hb3
 have hz3:w.heap.size+1+1 < w3.heap.size:=by have:=hb3.size;simp at this;omega
 have hy3:w.heap.size+1 < w3.heap.size:=by omega
 have hx3:w.heap.size < w3.heap.size:=by omega
 go_wp2_with fail
 refine (toBrdLine_any _ _ _).mono ?_
 rintro e w4 ⟨rfl,hb4⟩
 obtain ⟨hc4,hf4⟩:=bcell hb4
 have hz4:w.heap.size+1+1 < w4.heap.size:=by have:=hb4.size;simp at this;omega
 have hy4:w.heap.size+1 < w4.heap.size:=by omega
 have hx4:w.heap.size < w4.heap.size:=by omega
 go_wp2
 refine bodyPost_ret (v:=.agg #[.string s,.int .i64 c,.int .i64 r,.int .i64 a1,.int .i64 b1,.int .i64 a2,.int .i64 b2,.int .i64 a3,.int .i64 b3,.int .i64 a4,.int .i64 b4]) (by simp [results,Try.results24,go_sem,hc1,hc2,hc3,hc4,hy1,hy2,hy3]) rfl ⟨rfl,?_⟩
 repeat refine k_set ?_ (by dsimp only;omega) _
 refine k_trans ?_ hb4
 repeat refine k_set ?_ (by dsimp only;omega) _
 refine k_trans ?_ hb3
 repeat refine k_set ?_ (by dsimp only;omega) _
 refine k_trans ?_ hb2
 repeat refine k_set ?_ (by dsimp only;omega) _
 refine k_trans ?_ hb1
 exact k_alloc (k_alloc (k_alloc (Below.refl _ _) _) _) _

set_option maxRecDepth 100000 in
theorem szTblCell_any (s:ByteArray) (c r a1 b1 a2 b2 a3 b3 a4 b4:Int) (n:Int) (hn:n≤1048576) (h0:0≤n) (hs:s.size≤maxLen) (w:World) :
  Calls Try.prog 21 #[.agg #[.string s,.int .i64 c,.int .i64 r,.int .i64 a1,.int .i64 b1,.int .i64 a2,.int .i64 b2,.int .i64 a3,.int .i64 b3,.int .i64 a4,.int .i64 b4],.int .i64 n] w
   fun e w'=>e=.returned (.int .i64 (if (s.size:Int)≤n then n - s.size else -1))∧Below w.heap.size w w':=by
 unfold maxLen at hs
 by_cases h:(s.size:Int)≤n
 ·rw [if_pos h]
  have h':¬ n - (s.size:Int) < 0:=by omega
  go_enter Try.func21,Try.ntmps21
  go_wp2
  go_ret
  exact ⟨rfl,k_alloc (Below.refl _ _) _⟩
 ·rw [if_neg h]
  have h':n - (s.size:Int) < 0:=by omega
  go_enter Try.func21,Try.ntmps21
  go_wp2
  go_ret
  exact ⟨rfl,k_alloc (Below.refl _ _) _⟩
end Go.Proofs.Ytggmjiddadjilao
