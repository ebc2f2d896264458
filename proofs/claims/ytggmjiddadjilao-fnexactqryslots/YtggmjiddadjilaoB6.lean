/-
  PROVED HERE: what a table is in memory, for the other texts of this claim: cells, columns and rows, each in its place; it stays where what was in memory stays. Also: what a grid is in memory, for the other texts of this claim: its cells, each in its place; it stays where what was in memory stays; the first cell of a kind. Also: small laws on blocks of cells in memory, for the other texts of this claim. Also: numbers between two others, as a Bool. Also: what the program's within and the model's l1In answer at every argument: the Bool 'inB'; nothing that was in memory is turned. Also: small facts on places of a grid, for the other texts of this claim. Also: lists of texts that own their memory, for the other texts of this claim. Also: what the program's reaches answers at every argument; nothing in memory is turned. Also: what the program's GrdAt answers at a grid that lies in memory: the first cell that has a slot; nothing that was in memory is turned. Also: what the model's l1Among answers at every argument; nothing in memory is turned. Also: what the model's GrdAt answers at a grid that lies in memory: the first cell that has a slot; nothing that was in memory is turned.
-/
import Derived.Test.YtggmjiddadjilaoB1
import Derived.Laws.MakeOwn
import Derived.OwnWalk
import Derived.Lib.SmallJoins
import Derived.Test.YtggmjiddadjilaoRows
import Derived.WalkKit
import Derived.ProofKit
import Derived.WalkLawsBesides
import Derived.WalkSpells
import Derived.Below
import Derived.Laws.AppendOwn
namespace Go.Proofs.Ytggmjiddadjilao
open Go.RowKit

/-- a cell -/
structure C where
 s:ByteArray
 c:Int
 r:Int
 a1:Int
 b1:Int
 a2:Int
 b2:Int
 a3:Int
 b3:Int
 a4:Int
 b4:Int
/-- a row: its cells, whether it is whole -/
structure R where
 cells:List C
 whole:Bool
/-- a table -/
structure T where
 cols:List (Int × Int)
 head:Int
 foot:Int
 rows:List R
 gap:Int
/-- what stands where no cell, no row is -/
def dC:C:=⟨ByteArray.empty,0,0,0,0,0,0,0,0,0,0⟩
def dR:R:=⟨[],false⟩

/-- the eleven cells of a cell from an address on -/
def CellIs (w:World) (b o:Nat) (x:C):Prop :=
 w.cell? ⟨b,o,none⟩=some (.string x.s)∧w.cell? ⟨b,o+1,none⟩=some (.int .i64 x.c)∧w.cell? ⟨b,o+2,none⟩=some (.int .i64 x.r) ∧
 w.cell? ⟨b,o+3,none⟩=some (.int .i64 x.a1)∧w.cell? ⟨b,o+4,none⟩=some (.int .i64 x.b1)∧w.cell? ⟨b,o+5,none⟩=some (.int .i64 x.a2)∧w.cell? ⟨b,o+6,none⟩=some (.int .i64 x.b2) ∧
 w.cell? ⟨b,o+7,none⟩=some (.int .i64 x.a3)∧w.cell? ⟨b,o+8,none⟩=some (.int .i64 x.b3)∧w.cell? ⟨b,o+9,none⟩=some (.int .i64 x.a4)∧w.cell? ⟨b,o+10,none⟩=some (.int .i64 x.b4)

/-- a slice whose elements, sz cells each, are such; they lie in block z or behind it -/
def At (w:World) (z:Nat) (v:Value) (n sz:Nat) (E:Nat→Nat→Nat→Prop):Prop :=
 ∃ (a:Option Addr) (cap:Nat),v=.slice a n cap∧n≤cap∧cap≤maxLen∧∀ i,i < n→∃ b off,a=some ⟨b,off,none⟩∧b < w.heap.size∧z≤b∧E i b (off+i * sz)

def CellsAt (w:World) (z:Nat) (v:Value) (cs:List C):Prop:=At w z v cs.length 11 (fun i b o=>CellIs w b o (cs.getD i dC)∧(cs.getD i dC).s.size≤maxLen)
def ColsAt (w:World) (z:Nat) (v:Value) (ps:List (Int × Int)):Prop:=At w z v ps.length 2 (fun i b o=>w.cell? ⟨b,o,none⟩=some (.int .i64 (ps.getD i (0,0)).1)∧w.cell? ⟨b,o+1,none⟩=some (.int .i64 (ps.getD i (0,0)).2))
def RowsAt (w:World) (z:Nat) (v:Value) (rs:List R):Prop:=At w z v rs.length 2 (fun i b o=>∃ u,w.cell? ⟨b,o,none⟩=some u∧w.cell? ⟨b,o+1,none⟩=some (.bool (rs.getD i dR).whole)∧CellsAt w z u (rs.getD i dR).cells)
def TblAt (w:World) (z:Nat) (v:Value) (t:T):Prop:=∃ vc vr,v=.agg #[vc,.int .i64 t.head,.int .i64 t.foot,vr,.int .i64 t.gap]∧ColsAt w z vc t.cols∧RowsAt w z vr t.rows

/-- what lies from block z on is as it was -/
structure Since (z:Nat) (w w':World):Prop where
 size:w.heap.size≤w'.heap.size
 block:∀ k,z≤k→k < w.heap.size→w'.heap[k]?=w.heap[k]?
theorem Since.of_below {z:Nat} {w w':World} (h:Below w.heap.size w w'):Since z w w':=⟨h.size,fun k _ hk=>h.block k hk⟩
theorem Since.refl (z:Nat) (w:World):Since z w w:=⟨Nat.le_refl _,fun _ _ _=>rfl⟩
theorem Since.trans {z:Nat} {a b c:World} (h:Since z a b) (k:Since z b c):Since z a c:=⟨Nat.le_trans h.size k.size,fun i h1 h2=>(k.block i h1 (Nat.lt_of_lt_of_le h2 h.size)).trans (h.block i h1 h2)⟩
theorem Since.set {z:Nat} {a w:World} (h:Since z a w) {p:Addr} (hp:p.block < z) (v:Value):Since z a (w.setCell p v) :=
 ⟨by simpa [World.setCell] using h.size,fun k h1 h2=>(Below.heap_setCell _ _ _ _ (by omega)).trans (h.block k h1 h2)⟩
theorem Since.alloc {z:Nat} {a w:World} (h:Since z a w) (o:Obj):Since z a (w.alloc o):=h.trans (Since.of_below (k_alloc (Below.refl _ _) _))
theorem Since.cell {z:Nat} {w w':World} (h:Since z w w') {b:Nat} (h1:z≤b) (h2:b < w.heap.size) (p:Nat):w'.cell? ⟨b,p,none⟩=w.cell? ⟨b,p,none⟩:=World.cell?_of_block (w:=w) (a:=⟨b,p,none⟩) (h.block b h1 h2)

theorem At.mono {w w':World} {z z':Nat} {v:Value} {n sz:Nat} {E E':Nat→Nat→Nat→Prop} (h:At w z v n sz E) (hz:w.heap.size≤w'.heap.size) (hzz:z'≤z) (hE:∀ i b o,i < n→b < w.heap.size→z≤b→E i b o→E' i b o):At w' z' v n sz E':=by
 obtain ⟨a,cap,e,h1,h2,hx⟩:=h
 refine ⟨a,cap,e,h1,h2,fun i hi=>?_⟩
 obtain ⟨b,off,ea,hb,hzb,he⟩:=hx i hi
 exact ⟨b,off,ea,Nat.lt_of_lt_of_le hb hz,Nat.le_trans hzz hzb,hE i b _ hi hb hzb he⟩
theorem CellIs.since {w w':World} {z b o:Nat} {x:C} (h:CellIs w b o x) (hb:b < w.heap.size) (hz:z≤b) (k:Since z w w'):CellIs w' b o x:=by
 unfold CellIs at h ⊢
 simp only [k.cell hz hb]
 exact h
theorem CellsAt.since {w w':World} {z:Nat} {v:Value} {cs:List C} (h:CellsAt w z v cs) (k:Since z w w'):CellsAt w' z v cs :=
 At.mono h k.size (Nat.le_refl _) (fun _ _ _ _ hb hz he=>⟨he.1.since hb hz k,he.2⟩)
theorem ColsAt.since {w w':World} {z:Nat} {v:Value} {cs:List (Int × Int)} (h:ColsAt w z v cs) (k:Since z w w'):ColsAt w' z v cs :=
 At.mono h k.size (Nat.le_refl _) (fun _ _ _ _ hb hz he=>⟨(k.cell hz hb _).trans he.1,(k.cell hz hb _).trans he.2⟩)
theorem RowsAt.since {w w':World} {z:Nat} {v:Value} {rs:List R} (h:RowsAt w z v rs) (k:Since z w w'):RowsAt w' z v rs :=
 At.mono h k.size (Nat.le_refl _) (fun _ _ _ _ hb hz ⟨u,h1,h2,h3⟩=>⟨u,(k.cell hz hb _).trans h1,(k.cell hz hb _).trans h2,h3.since k⟩)
theorem TblAt.since {w w':World} {z:Nat} {v:Value} {t:T} (h:TblAt w z v t) (k:Since z w w'):TblAt w' z v t:=by
 obtain ⟨vc,vr,e,h1,h2⟩:=h
 exact ⟨vc,vr,e,h1.since k,h2.since k⟩
theorem CellsAt.kept {w w':World} {z:Nat} {v:Value} {cs:List C} (h:CellsAt w z v cs) (k:Below w.heap.size w w'):CellsAt w' z v cs:=h.since (.of_below k)
theorem ColsAt.kept {w w':World} {z:Nat} {v:Value} {cs:List (Int × Int)} (h:ColsAt w z v cs) (k:Below w.heap.size w w'):ColsAt w' z v cs:=h.since (.of_below k)
theorem RowsAt.kept {w w':World} {z:Nat} {v:Value} {rs:List R} (h:RowsAt w z v rs) (k:Below w.heap.size w w'):RowsAt w' z v rs:=h.since (.of_below k)
theorem TblAt.kept {w w':World} {z:Nat} {v:Value} {t:T} (h:TblAt w z v t) (k:Below w.heap.size w w'):TblAt w' z v t:=h.since (.of_below k)
theorem CellsAt.base {w:World} {z z':Nat} {v:Value} {cs:List C} (h:CellsAt w z v cs) (hz:z'≤z):CellsAt w z' v cs:=At.mono h (Nat.le_refl _) hz (fun _ _ _ _ _ _ he=>he)
theorem ColsAt.base {w:World} {z z':Nat} {v:Value} {cs:List (Int × Int)} (h:ColsAt w z v cs) (hz:z'≤z):ColsAt w z' v cs:=At.mono h (Nat.le_refl _) hz (fun _ _ _ _ _ _ he=>he)
theorem RowsAt.base {w:World} {z z':Nat} {v:Value} {rs:List R} (h:RowsAt w z v rs) (hz:z'≤z):RowsAt w z' v rs:=At.mono h (Nat.le_refl _) hz (fun _ _ _ _ _ _ ⟨u,h1,h2,h3⟩=>⟨u,h1,h2,h3.base hz⟩)
/-- The element at a place: for a walk. -/
theorem At.get {w:World} {z:Nat} {v:Value} {n sz:Nat} {E:Nat→Nat→Nat→Prop} (h:At w z v n sz E) {i:Nat} (hi:i < n):∃ b off cap,v=.slice (some ⟨b,off,none⟩) n cap∧n≤cap∧cap≤maxLen∧b < w.heap.size∧E i b (off+i * sz):=by
 obtain ⟨a,cap,e,h1,h2,hx⟩:=h
 obtain ⟨b,off,rfl,hb,_,he⟩:=hx i hi
 exact ⟨b,off,cap,e,h1,h2,hb,he⟩
theorem At.form {w:World} {z:Nat} {v:Value} {n sz:Nat} {E:Nat→Nat→Nat→Prop} (h:At w z v n sz E):∃ a cap,v=.slice a n cap∧n≤maxLen:=by
 obtain ⟨a,cap,e,h1,h2,_⟩:=h
 exact ⟨a,cap,e,Nat.le_trans h1 h2⟩
/-- how much cells, rows, a table are: as the laws count it -/
def totC:List C→Nat
 | []=>0
 | x :: r=>1+x.s.size+totC r
def totR:List R→Nat
 | []=>0
 | x :: r=>1+totC x.cells+totR r
def totT (t:T):Nat:=t.cols.length+totR t.rows
/-- the texts of the first k cells together -/
def szTo (cs:List C) (k:Nat):Nat:=((cs.take k).map (fun x=>x.s.size)).sum
def rwTo (rs:List R) (k:Nat):Nat:=((rs.take k).map (fun x=>totC x.cells)).sum
end Go.Proofs.Ytggmjiddadjilao
namespace Go.Proofs.Ytggmjiddadjilao
open Go.RowKit

/-- a cell at its place -/
structure GC where
 row:Int
 col:Int
 rows:Int
 cols:Int
 ins:Int
/-- a grid -/
structure G where
 rows:Int
 cols:Int
 cells:List GC
def dG:GC:=⟨0,0,0,0,0⟩
def I64 (n:Int):Prop:=-9223372036854775808≤n∧n≤9223372036854775807
def GOk (x:GC):Prop:=I64 x.row∧I64 x.col∧I64 x.rows∧I64 x.cols∧I64 x.ins
/-- the five cells of a cell from an address on -/
def GIs (w:World) (b o:Nat) (x:GC):Prop :=
 w.cell? ⟨b,o,none⟩=some (.int .i64 x.row)∧w.cell? ⟨b,o+1,none⟩=some (.int .i64 x.col)∧w.cell? ⟨b,o+2,none⟩=some (.int .i64 x.rows) ∧
 w.cell? ⟨b,o+3,none⟩=some (.int .i64 x.cols)∧w.cell? ⟨b,o+4,none⟩=some (.int .i64 x.ins)
def GsAt (w:World) (z:Nat) (v:Value) (gs:List GC):Prop:=At w z v gs.length 5 (fun i b o=>GIs w b o (gs.getD i dG)∧GOk (gs.getD i dG))
def GrdAt (w:World) (z:Nat) (v:Value) (g:G):Prop:=∃ vc,v=.agg #[.int .i64 g.rows,.int .i64 g.cols,vc]∧GsAt w z vc g.cells

theorem GIs.since {w w':World} {z b o:Nat} {x:GC} (h:GIs w b o x) (hb:b < w.heap.size) (hz:z≤b) (k:Since z w w'):GIs w' b o x:=by
 unfold GIs at h ⊢
 simp only [k.cell hz hb]
 exact h
theorem GsAt.since {w w':World} {z:Nat} {v:Value} {gs:List GC} (h:GsAt w z v gs) (k:Since z w w'):GsAt w' z v gs :=
 At.mono h k.size (Nat.le_refl _) (fun _ _ _ _ hb hz he=>⟨he.1.since hb hz k,he.2⟩)
theorem GsAt.kept {w w':World} {z:Nat} {v:Value} {gs:List GC} (h:GsAt w z v gs) (k:Below w.heap.size w w'):GsAt w' z v gs:=h.since (.of_below k)
theorem GsAt.base {w:World} {z z':Nat} {v:Value} {gs:List GC} (h:GsAt w z v gs) (hz:z'≤z):GsAt w z' v gs:=At.mono h (Nat.le_refl _) hz (fun _ _ _ _ _ _ he=>he)

/-- the place of the first cell of a kind; -1, if there is none -/
def findTo (p:GC→Bool) (gs:List GC):Int:=match gs.findIdx? p with | some k=>(k:Int) | none=>-1
theorem findTo_hit {p:GC→Bool} {gs:List GC} {k:Nat} (hk:k < gs.length) (h:∀ i,i < k→p (gs.getD i dG)=false) (hp:p (gs.getD k dG)=true):findTo p gs=(k:Int):=by
 have e:gs.findIdx? p=some k:=by
  rw [List.findIdx?_eq_some_iff_getElem]
  refine ⟨hk,by simpa [List.getD,hk] using hp,fun j hj=>?_⟩
  have:=h j hj
  simpa [List.getD,Nat.lt_trans hj hk] using this
 rw [findTo,e]
theorem findTo_none {p:GC→Bool} {gs:List GC} (h:∀ i,i < gs.length→p (gs.getD i dG)=false):findTo p gs=-1:=by
 have e:gs.findIdx? p=none:=by
  rw [List.findIdx?_eq_none_iff]
  intro x hx
  obtain ⟨i,hi,rfl⟩:=List.mem_iff_getElem.1 hx
  have:=h i hi
  simpa [List.getD,hi] using this
 rw [findTo,e]
end Go.Proofs.Ytggmjiddadjilao
namespace Go.Proofs.Ytggmjiddadjilao
open Go.RowKit

theorem sizeSet (w:World) (p:Addr) (v:Value):(w.setCell p v).heap.size=w.heap.size:=by simp [World.setCell]
theorem newestB (w:World) (q:Obj):(w.alloc q).heap[w.heap.size]?=some q:=by show (w.heap.push q)[w.heap.size]?=_;simp
theorem cellB {w:World} {g p:Nat} {arr:Array Value} {t:TypeId} (h:w.heap[g]?=some (.cells arr t)):w.cell? ⟨g,p,none⟩=arr[p]?:=Joins.cell_of_block h p
theorem someB {w:World} {g p:Nat} {arr:Array Value} {t:TypeId} (h:w.heap[g]?=some (.cells arr t)) (hp:p < arr.size):∃ v,w.cell? ⟨g,p,none⟩=some v:=⟨_,(cellB h).trans (Array.getElem?_eq_getElem hp)⟩
theorem freeB {w:World} {g p:Nat} {arr:Array Value} {t:TypeId} (h:w.heap[g]?=some (.cells arr t)):w.frozen? ⟨g,p,none⟩=false:=Joins.unfrozen_of_block h p
theorem setB {w:World} {g p:Nat} {arr:Array Value} {t:TypeId} (h:w.heap[g]?=some (.cells arr t)) (v:Value):(w.setCell ⟨g,p,none⟩ v).heap[g]?=some (.cells (arr.setIfInBounds p v) t):=Joins.block_setCell h v
/-- what is left of n behind m: -1, if that is less than nothing -/
def leftOf (n:Int) (m:Nat):Int:=if (m:Int)≤n then n - m else -1
theorem leftOf_pos {n:Int} {m:Nat} (h:(m:Int)≤n):leftOf n m=n - m:=by rw [leftOf,if_pos h]
theorem leftOf_neg {n:Int} {m:Nat} (h:¬ (m:Int)≤n):leftOf n m=-1:=by rw [leftOf,if_neg h]
end Go.Proofs.Ytggmjiddadjilao
namespace Go.Proofs.Ytggmjiddadjilao
open Go.RowKit

def inB (n lo hi:Int):Bool:=decide (lo≤n∧n≤hi)
theorem retB {a b:Bool} (h:a=b):Ending.returned (.bool a)=.returned (.bool b):=by rw [h]
theorem inB_true {n lo hi:Int} (h1:lo≤n) (h2:n≤hi):inB n lo hi=true:=by simp [inB,h1,h2]
theorem inB_false {n lo hi:Int} (h:¬ (lo≤n∧n≤hi)):inB n lo hi=false:=by simp only [inB,h,decide_false]
end Go.Proofs.Ytggmjiddadjilao
namespace Go.Proofs.Ytggmjiddadjilao
open Go.RowKit

theorem within_any (n lo hi:Int) (w:World) :
  Calls Try.prog 55 #[.int .i64 n,.int .i64 lo,.int .i64 hi] w fun e w'=>e=.returned (.bool (inB n lo hi))∧w'=w:=by
 by_cases h1:lo≤n
 ·by_cases h2:n≤hi
  ·have HB:Hid (inB n lo hi=true):=inB_true h1 h2
   go_enter Try.func55,Try.ntmps55
   go_wp2
   go_ret
   exact ⟨retB HB.out.symm,rfl⟩
  ·have HB:Hid (inB n lo hi=false):=inB_false (by omega)
   go_enter Try.func55,Try.ntmps55
   go_wp2
   go_ret
   exact ⟨retB HB.out.symm,rfl⟩
 ·have HB:Hid (inB n lo hi=false):=inB_false (by omega)
  go_enter Try.func55,Try.ntmps55
  go_wp2
  go_ret
  exact ⟨retB HB.out.symm,rfl⟩

theorem l1In_any (n lo hi:Int) (w:World) :
  Calls Try.prog 48 #[.int .i64 n,.int .i64 lo,.int .i64 hi] w fun e w'=>e=.returned (.bool (inB n lo hi))∧w'=w:=by
 by_cases h1:lo≤n
 ·by_cases h2:n≤hi
  ·have HB:Hid (inB n lo hi=true):=inB_true h1 h2
   go_enter Try.func48,Try.ntmps48
   go_wp2
   go_ret
   exact ⟨retB HB.out.symm,rfl⟩
  ·have HB:Hid (inB n lo hi=false):=inB_false (by omega)
   go_enter Try.func48,Try.ntmps48
   go_wp2
   go_ret
   exact ⟨retB HB.out.symm,rfl⟩
 ·have HB:Hid (inB n lo hi=false):=inB_false (by omega)
  go_enter Try.func48,Try.ntmps48
  go_wp2
  go_ret
  exact ⟨retB HB.out.symm,rfl⟩
end Go.Proofs.Ytggmjiddadjilao
namespace Go.Proofs.Ytggmjiddadjilao
open Go.RowKit

theorem ret_boolG {a b:Bool} (h:a=b):Ending.returned (.bool a)=.returned (.bool b):=by rw [h]
def isIn (row ins:Int) (x:GC):Bool:=(x.row == row) && (x.ins == ins)
/-- whether a place is one of so many from a first one on -/
def amongB (x first many:Int):Bool:=decide (first≤x) && decide (0 < many) && decide (x - first < many)
def holdsB (row col:Int) (x:GC):Bool:=amongB row x.row x.rows && amongB col x.col x.cols

theorem lt_of_blockG {w:World} {g:Nat} {o:Obj} (h:w.heap[g]?=some o):g < w.heap.size:=(Array.getElem?_eq_some_iff.1 h).1

theorem wrap_sub {x f:Int} (hx:-9223372036854775808≤x∧x≤9223372036854775807) (hf:-9223372036854775808≤f∧f≤9223372036854775807) (h:f≤x):IntKind.u64.wrap (IntKind.u64.wrap x - IntKind.u64.wrap f)=x - f:=by
 simp [IntKind.wrap,IntKind.bits,IntKind.signed]
 omega

end Go.Proofs.Ytggmjiddadjilao
namespace Go.Proofs.Ytggmjiddadjilao
open Go.RowKit

def eS:ByteArray:=ByteArray.empty
/-- a list of texts, in a block of its own, at B or behind it -/
def RowS (w:World) (B:Nat) (v:Value) (l:List ByteArray):Prop :=
 (v=.slice none 0 0∧l=[])∨∃ g cap cur,v=.slice (some ⟨g,0,none⟩) l.length cap∧B≤g∧w.heap[g]?=some (.cells cur 9 (0,0))∧l.length≤cap∧cap≤maxLen∧cur.size=cap∧∀ i,i < l.length→cur[i]?=some (.string (l.getD i eS))
theorem RowS.of_owns {w:World} {B:Nat} {v:Value} {l:List ByteArray} (h:w.ownsRow B 9 1 v l.length (l.map Value.string)):RowS w B v l:=by
 rcases h.2 with ⟨hv,h0⟩ | ⟨g,cap,cur,hv,hb,hg,h1,h2,h3,h4⟩
 ·exact .inl ⟨hv,List.eq_nil_of_length_eq_zero h0⟩
 ·refine .inr ⟨g,cap,cur,hv,hb,hg,h1,h2,by omega,fun i hi=>?_⟩
  have:cur.toList[i]?=(l.map Value.string)[i]?:=by rw [← h4,List.getElem?_take_of_lt (by omega)]
  rw [← Array.getElem?_toList,this]
  simp [List.getD,hi]
theorem RowS.below {w w':World} {B C:Nat} {v:Value} {l:List ByteArray} (h:RowS w B v l) (k:Below C w w') (hC:w.heap.size≤C):RowS w' B v l:=by
 rcases h with h | ⟨g,cap,cur,hv,hb,hg,r⟩
 ·exact .inl h
 ·exact .inr ⟨g,cap,cur,hv,hb,(k.block g (Nat.lt_of_lt_of_le (Array.getElem?_eq_some_iff.1 hg).1 hC)).trans hg,r⟩
theorem RowS.base {w:World} {B B':Nat} {v:Value} {l:List ByteArray} (h:RowS w B v l) (hB:B'≤B):RowS w B' v l:=by
 rcases h with h | ⟨g,cap,cur,hv,hb,r⟩
 ·exact .inl h
 ·exact .inr ⟨g,cap,cur,hv,Nat.le_trans hB hb,r⟩
theorem RowS.form {w:World} {B:Nat} {v:Value} {l:List ByteArray} (h:RowS w B v l):∃ a cap,v=.slice a l.length cap:=by
 rcases h with ⟨rfl,rfl⟩ | ⟨g,cap,cur,hv,_⟩
 ·exact ⟨none,0,rfl⟩
 ·exact ⟨_,_,hv⟩
theorem RowS.get {w:World} {B:Nat} {v:Value} {l:List ByteArray} (h:RowS w B v l) {i:Nat} (hi:i < l.length) :
  ∃ g cap,v=.slice (some ⟨g,0,none⟩) l.length cap∧B≤g∧g < w.heap.size∧l.length≤cap∧cap≤maxLen∧w.cell? ⟨g,i,none⟩=some (.string (l.getD i eS))∧w.frozen? ⟨g,i,none⟩=false:=by
 rcases h with ⟨_,rfl⟩ | ⟨g,cap,cur,hv,hb,hg,h1,h2,h3,h4⟩
 ·cases hi
 ·exact ⟨g,cap,hv,hb,(Array.getElem?_eq_some_iff.1 hg).1,h1,h2,(cellB hg).trans (h4 i hi),freeB hg⟩
theorem RowS.set {w:World} {B g cap n:Nat} {l:List ByteArray} (h:RowS w B (.slice (some ⟨g,0,none⟩) n cap) l) {i:Nat} (hi:i < l.length) (x:ByteArray):RowS (w.setCell ⟨g,i,none⟩ (.string x)) B (.slice (some ⟨g,0,none⟩) n cap) (l.set i x):=by
 rcases h with ⟨hv,_⟩ | ⟨g',cap',cur,hv,hb,hg,h1,h2,h3,h4⟩
 ·simp at hv
 ·simp only [Value.slice.injEq,Option.some.injEq,Addr.mk.injEq,and_true] at hv
  obtain ⟨rfl,rfl,rfl⟩:=hv
  refine .inr ⟨g,cap,cur.setIfInBounds i (.string x),by simp,hb,setB hg _,by simpa using h1,h2,by simpa using h3,fun j hj=>?_⟩
  rw [List.length_set] at hj
  by_cases e:i=j
  ·subst e
   simp [List.getD,hj,show i < cur.size by omega]
  ·rw [Array.getElem?_setIfInBounds_ne e,h4 j hj]
   simp [List.getD,e]
end Go.Proofs.Ytggmjiddadjilao
namespace Go.Proofs.Ytggmjiddadjilao
open Go.RowKit

theorem reaches_any (x f m:Int) (hx:I64 x) (hf:I64 f) (hm:I64 m) (w:World) :
  Calls Try.prog 74 #[.int .i64 f,.int .i64 m,.int .i64 x] w fun e w'=>e=.returned (.bool (amongB x f m))∧w'=w:=by
 unfold I64 at hx hf hm
 by_cases h1:f≤x
 ·by_cases h2:0 < m
  ·have e:amongB x f m=decide (x - f < m):=by simp [amongB];omega
   rw [e]
   go_enter Try.func74,Try.ntmps74
   go_wp2
   go_ret
   exact ⟨ret_boolG (by rw [wrap_sub hx hf h1]),rfl⟩
  ·have e:amongB x f m=false:=by simp [amongB];omega
   rw [e]
   go_enter Try.func74,Try.ntmps74
   go_wp2
   go_ret
   exact ⟨rfl,rfl⟩
 ·have e:amongB x f m=false:=by simp [amongB];omega
  rw [e]
  go_enter Try.func74,Try.ntmps74
  go_wp2
  go_ret
  exact ⟨rfl,rfl⟩
end Go.Proofs.Ytggmjiddadjilao
namespace Go.Proofs.Ytggmjiddadjilao
open Go.RowKit

set_option maxRecDepth 100000 in
set_option maxHeartbeats 1000000 in
theorem implGrdAt (a b:Int) (ac:Option Addr) (cc:Nat) (gs:List GC) (row col:Int) (hr:I64 row) (hc:I64 col) (w:World) {z:Nat} (h:GsAt w z (.slice ac gs.length cc) gs) :
  Calls Try.prog 39 #[.agg #[.int .i64 a,.int .i64 b,.slice ac gs.length cc],.int .i64 row,.int .i64 col] w fun e w'=>e=.returned (.int .i64 (findTo (holdsB row col) gs))∧Below w.heap.size w w':=by
 obtain ⟨_,_,_,hlen⟩:=At.form h
 unfold maxLen at hlen
 have H:=Hid.intro h
 clear h
 go_enter Try.func39,Try.ntmps39
 go_wp2_with fail
 go_loopw [12] (fun i W=>∃ k:Nat,k≤gs.length∧i=.int .i64 k∧Hid (∀ j,j < k→holdsB row col (gs.getD j dG)=false)∧Hid (Below w.heap.size w W)) (fun i _=>gs.length - (intOf i).toNat)
 case atStart=>exact ⟨0,Nat.zero_le _,rfl,fun j hj=>absurd hj (Nat.not_lt_zero _),k_alloc (Below.refl _ _) _⟩
 case round =>
  obtain ⟨k,hk,rfl,HA,HB⟩:=hrel
  by_cases hlt:k < gs.length
  ·obtain ⟨q,off,cap',e',hc1,hc2,hbl,hx,hs⟩:=At.get (H.out.kept HB.out) hlt
   simp only [Value.slice.injEq,true_and] at e'
   obtain ⟨rfl,rfl⟩:=e'
   have HH:Hid (holdsB row col (gs.getD k dG)=true→findTo (holdsB row col) gs=(k:Int)):=fun hp=>findTo_hit hlt HA.out hp
   have HN:Hid (holdsB row col (gs.getD k dG)=false→∀ j,j < k+1→holdsB row col (gs.getD j dG)=false):=fun hp j hj=>by
    rcases Nat.lt_or_eq_of_le (Nat.lt_succ_iff.1 hj) with h1 | rfl
    ·exact HA.out j h1
    ·exact hp
   generalize gs.getD k dG=x at hx hs HH HN
   obtain ⟨x0,x1,x2,x3,x4⟩:=hx
   obtain ⟨b0,b1,b2,b3,_⟩:=hs
   have H1:=Hid.intro (reaches_any row x.row x.rows hr b0 b2)
   have H2:=Hid.intro (reaches_any col x.col x.cols hc b1 b3)
   unfold maxLen at hc2
   clear b0 b1 b2 b3
   cases h1:amongB row x.row x.rows with
   | false =>
    have HF:=Hid.intro (HN.out (by simp only [holdsB,h1,Bool.false_and]))
    rw [h1] at H1
    clear HH HN HA
    go_wp2_with fail
    refine (H1.out _).mono ?_
    rintro e w1 ⟨rfl,rfl⟩
    go_wp2
    go_roundw
    case rel=>exact ⟨k+1,by omega,by go_num,HF,k_alloc HB.out _⟩
    case measure=>simp [intOf];omega
   | true =>
    rw [h1] at H1
    cases h2:amongB col x.col x.cols with
    | false =>
     have HF:=Hid.intro (HN.out (by simp only [holdsB,h2,Bool.and_false]))
     rw [h2] at H2
     clear HH HN HA
     go_wp2_with fail
     refine (H1.out _).mono ?_
     rintro e w1 ⟨rfl,rfl⟩
     go_wp2_with fail
     refine (H2.out _).mono ?_
     rintro e w1 ⟨rfl,rfl⟩
     go_wp2
     go_roundw
     case rel=>exact ⟨k+1,by omega,by go_num,HF,k_alloc HB.out _⟩
     case measure=>simp [intOf];omega
    | true =>
     have HF:=Hid.intro (HH.out (by simp only [holdsB,h1,h2,Bool.and_self]))
     rw [h2] at H2
     clear HH HN HA
     go_wp2_with fail
     refine (H1.out _).mono ?_
     rintro e w1 ⟨rfl,rfl⟩
     go_wp2_with fail
     refine (H2.out _).mono ?_
     rintro e w1 ⟨rfl,rfl⟩
     go_wp2
     go_ret
     exact ⟨by rw [HF.out];rfl,k_alloc HB.out _⟩
  ·obtain rfl:k=gs.length:=by omega
   have HF:=Hid.intro (findTo_none HA.out)
   clear HA
   go_wp2
   go_ret
   exact ⟨by rw [HF.out];rfl,HB.out⟩

end Go.Proofs.Ytggmjiddadjilao
namespace Go.Proofs.Ytggmjiddadjilao
open Go.RowKit

theorem l1Among_any (x f m:Int) (hx:I64 x) (hf:I64 f) (hm:I64 m) (w:World) :
  Calls Try.prog 97 #[.int .i64 x,.int .i64 f,.int .i64 m] w fun e w'=>e=.returned (.bool (amongB x f m))∧w'=w:=by
 unfold I64 at hx hf hm
 by_cases h1:x < f
 ·have e:amongB x f m=false:=by simp [amongB];omega
  rw [e]
  go_enter Try.func97,Try.ntmps97
  go_wp2
  go_ret
  exact ⟨rfl,rfl⟩
 ·by_cases h2:m≤0
  ·have e:amongB x f m=false:=by simp [amongB];omega
   rw [e]
   go_enter Try.func97,Try.ntmps97
   go_wp2
   go_ret
   exact ⟨rfl,rfl⟩
  ·by_cases h3:f < 0
   ·by_cases h4:0≤x
    ·have e:amongB x f m=decide (x < m+f):=by
      have:decide (x - f < m)=decide (x < m+f):=by apply decide_eq_decide.2;omega
      simp only [amongB,this];simp;omega
     rw [e]
     go_enter Try.func97,Try.ntmps97
     go_wp2
     go_ret
     exact ⟨rfl,rfl⟩
    ·have e:amongB x f m=decide (x - f < m):=by simp [amongB];omega
     rw [e]
     go_enter Try.func97,Try.ntmps97
     go_wp2
     go_ret
     exact ⟨rfl,rfl⟩
   ·have e:amongB x f m=decide (x - f < m):=by simp [amongB];omega
    rw [e]
    go_enter Try.func97,Try.ntmps97
    go_wp2
    go_ret
    exact ⟨rfl,rfl⟩
end Go.Proofs.Ytggmjiddadjilao
namespace Go.Proofs.Ytggmjiddadjilao
open Go.RowKit

set_option maxRecDepth 100000 in
theorem l3Holds_any (x:GC) (hx:GOk x) (row col:Int) (hr:I64 row) (hc:I64 col) (w:World) :
  Calls Try.prog 71 #[.agg #[.int .i64 x.row,.int .i64 x.col,.int .i64 x.rows,.int .i64 x.cols,.int .i64 x.ins],.int .i64 row,.int .i64 col] w fun e w'=>e=.returned (.bool (holdsB row col x))∧Below w.heap.size w w':=by
 obtain ⟨h0,h1,h2,h3,_⟩:=hx
 unfold holdsB
 have H1:=Hid.intro (l1Among_any row x.row x.rows hr h0 h2)
 have H2:=Hid.intro (l1Among_any col x.col x.cols hc h1 h3)
 generalize amongB row x.row x.rows=p at H1 ⊢
 generalize amongB col x.col x.cols=q at H2 ⊢
 cases p with
 | false =>
  go_enter Try.func71,Try.ntmps71
  go_wp2_with fail
  refine (H1.out _).mono ?_
  rintro e w1 ⟨rfl,rfl⟩
  go_wp2
  go_ret
  exact ⟨rfl,k_alloc (Below.refl _ _) _⟩
 | true =>
  go_enter Try.func71,Try.ntmps71
  go_wp2_with fail
  refine (H1.out _).mono ?_
  rintro e w1 ⟨rfl,rfl⟩
  go_wp2_with fail
  refine (H2.out _).mono ?_
  rintro e w1 ⟨rfl,rfl⟩
  go_wp2
  go_ret
  exact ⟨by cases q <;> rfl,k_alloc (Below.refl _ _) _⟩

set_option maxRecDepth 100000 in
set_option maxHeartbeats 1000000 in
theorem specGrdAt (a b:Int) (ac:Option Addr) (cc:Nat) (gs:List GC) (row col:Int) (hr:I64 row) (hc:I64 col) (w:World) {z:Nat} (h:GsAt w z (.slice ac gs.length cc) gs) :
  Calls Try.prog 35 #[.agg #[.int .i64 a,.int .i64 b,.slice ac gs.length cc],.int .i64 row,.int .i64 col] w fun e w'=>e=.returned (.int .i64 (findTo (holdsB row col) gs))∧Below w.heap.size w w':=by
 obtain ⟨_,_,_,hlen⟩:=At.form h
 unfold maxLen at hlen
 have H:=Hid.intro h
 clear h
 have KA:=Hid.intro (k_alloc (Below.refl w.heap.size w) (.cells #[.int .i64 a,.int .i64 b,.slice ac gs.length cc] 36))
 go_enter Try.func35,Try.ntmps35
 go_wp2_with fail
 go_loopw [7] (fun i W=>∃ k:Nat,k≤gs.length∧i=.int .i64 k∧Hid (∀ j,j < k→holdsB row col (gs.getD j dG)=false)∧Hid (Below w.heap.size w W)∧Hid (W.heap[w.heap.size]?=some (.cells #[.int .i64 a,.int .i64 b,.slice ac gs.length cc] 36))) (fun i _=>gs.length - (intOf i).toNat)
 case atStart=>exact ⟨0,Nat.zero_le _,rfl,fun j hj=>absurd hj (Nat.not_lt_zero _),KA.out,newestB _ _⟩
 case round =>
  obtain ⟨k,hk,rfl,HA,HB,HX⟩:=hrel
  have g2:wr.cell? ⟨w.heap.size,2,none⟩=some (.slice ac gs.length cc):=cellB HX.out
  by_cases hlt:k < gs.length
  ·obtain ⟨q,off,cap',e',hc1,hc2,hbl,hx,hs⟩:=At.get (H.out.kept HB.out) hlt
   simp only [Value.slice.injEq,true_and] at e'
   obtain ⟨rfl,rfl⟩:=e'
   have HH:Hid (holdsB row col (gs.getD k dG)=true→findTo (holdsB row col) gs=(k:Int)):=fun hp=>findTo_hit hlt HA.out hp
   have HN:Hid (holdsB row col (gs.getD k dG)=false→∀ j,j < k+1→holdsB row col (gs.getD j dG)=false):=fun hp j hj=>by
    rcases Nat.lt_or_eq_of_le (Nat.lt_succ_iff.1 hj) with h1 | rfl
    ·exact HA.out j h1
    ·exact hp
   have HL:=Hid.intro (l3Holds_any (gs.getD k dG) hs row col hr hc)
   generalize gs.getD k dG=x at hx HH HN HL
   obtain ⟨x0,x1,x2,x3,x4⟩:=hx
   unfold maxLen at hc2
   clear hs
   cases h1:holdsB row col x with
   | false =>
    have HF:=Hid.intro (HN.out h1)
    rw [h1] at HL
    clear HH HN HA
    go_wp2_with fail
    refine (HL.out _).mono ?_
    rintro e w1 ⟨rfl,hb1⟩
    have HB1:=Hid.intro (k_trans HB.out hb1)
    have HX1:Hid (w1.heap[w.heap.size]?=some (.cells #[.int .i64 a,.int .i64 b,.slice (some ⟨q,off,none⟩) gs.length cc] 36)):=(hb1.block w.heap.size (lt_of_blockG HX.out)).trans HX.out
    clear hb1
    go_wp2
    go_roundw
    case rel=>exact ⟨k+1,by omega,by go_num,HF,HB1,HX1⟩
    case measure=>simp [intOf];omega
   | true =>
    have HF:=Hid.intro (HH.out h1)
    rw [h1] at HL
    clear HH HN HA
    go_wp2_with fail
    refine (HL.out _).mono ?_
    rintro e w1 ⟨rfl,hb1⟩
    have HB1:=Hid.intro (k_trans HB.out hb1)
    clear hb1
    go_wp2
    go_ret
    exact ⟨by rw [HF.out];rfl,HB1.out⟩
  ·obtain rfl:k=gs.length:=by omega
   have HF:=Hid.intro (findTo_none HA.out)
   clear HA
   go_wp2
   go_ret
   exact ⟨by rw [HF.out];rfl,HB.out⟩

end Go.Proofs.Ytggmjiddadjilao
