/-
  PROVED HERE: what a table is in memory, for the other texts of this claim: cells, columns and rows, each in its place; it stays where what was in memory stays. Also: what a grid is in memory, for the other texts of this claim: its cells, each in its place; it stays where what was in memory stays; the first cell of a kind. Also: small laws on blocks of cells in memory, for the other texts of this claim. Also: numbers between two others, as a Bool. Also: what the program's within and the model's l1In answer at every argument: the Bool 'inB'; nothing that was in memory is turned. Also: a region that draws its order, whose own operations only read and whose callees turn nothing that was in memory, may be walked once, in its text's order. Also: small laws on rows that a call owns, whatever their elements are. Also: what is as it was but one block, for the other texts of this claim. Also: what it is that a call owns the cells, the columns and the rows of a table: it stays where other blocks are turned; such a table lies in memory.
-/
import Derived.Test.YtggmjiddadjilajH1
import Derived.Laws.MakeOwn
import Derived.OwnWalk
import Derived.Lib.SmallJoins
import Derived.Test.YtggmjiddadjilajRows
import Derived.WalkKit
import Derived.ProofKit
import Derived.WalkLawsBesides
import Derived.WalkSpells
import Derived.Below
import Derived.Deep.QuietTactic
import Derived.BigQuiet
import Derived.Laws.AppendOwn
namespace Go.Proofs.Ytggmjiddadjilaj
open Go.RowKit

/-- a cell -/
structure C where
 s:ByteArray
 c:Int
 r:Int
 a1:Int
 b1:Int
 a2:Int
 b2:Int
 a3:Int
 b3:Int
 a4:Int
 b4:Int
/-- a row: its cells, whether it is whole -/
structure R where
 cells:List C
 whole:Bool
/-- a table -/
structure T where
 cols:List (Int × Int)
 head:Int
 foot:Int
 rows:List R
 gap:Int
/-- what stands where no cell, no row is -/
def dC:C:=⟨ByteArray.empty,0,0,0,0,0,0,0,0,0,0⟩
def dR:R:=⟨[],false⟩

/-- the eleven cells of a cell from an address on -/
def CellIs (w:World) (b o:Nat) (x:C):Prop :=
 w.cell? ⟨b,o,none⟩=some (.string x.s)∧w.cell? ⟨b,o+1,none⟩=some (.int .i64 x.c)∧w.cell? ⟨b,o+2,none⟩=some (.int .i64 x.r) ∧
 w.cell? ⟨b,o+3,none⟩=some (.int .i64 x.a1)∧w.cell? ⟨b,o+4,none⟩=some (.int .i64 x.b1)∧w.cell? ⟨b,o+5,none⟩=some (.int .i64 x.a2)∧w.cell? ⟨b,o+6,none⟩=some (.int .i64 x.b2) ∧
 w.cell? ⟨b,o+7,none⟩=some (.int .i64 x.a3)∧w.cell? ⟨b,o+8,none⟩=some (.int .i64 x.b3)∧w.cell? ⟨b,o+9,none⟩=some (.int .i64 x.a4)∧w.cell? ⟨b,o+10,none⟩=some (.int .i64 x.b4)

/-- a slice whose elements, sz cells each, are such; they lie in block z or behind it -/
def At (w:World) (z:Nat) (v:Value) (n sz:Nat) (E:Nat→Nat→Nat→Prop):Prop :=
 ∃ (a:Option Addr) (cap:Nat),v=.slice a n cap∧n≤cap∧cap≤maxLen∧∀ i,i < n→∃ b off,a=some ⟨b,off,none⟩∧b < w.heap.size∧z≤b∧E i b (off+i * sz)

def CellsAt (w:World) (z:Nat) (v:Value) (cs:List C):Prop:=At w z v cs.length 11 (fun i b o=>CellIs w b o (cs.getD i dC)∧(cs.getD i dC).s.size≤maxLen)
def ColsAt (w:World) (z:Nat) (v:Value) (ps:List (Int × Int)):Prop:=At w z v ps.length 2 (fun i b o=>w.cell? ⟨b,o,none⟩=some (.int .i64 (ps.getD i (0,0)).1)∧w.cell? ⟨b,o+1,none⟩=some (.int .i64 (ps.getD i (0,0)).2))
def RowsAt (w:World) (z:Nat) (v:Value) (rs:List R):Prop:=At w z v rs.length 2 (fun i b o=>∃ u,w.cell? ⟨b,o,none⟩=some u∧w.cell? ⟨b,o+1,none⟩=some (.bool (rs.getD i dR).whole)∧CellsAt w z u (rs.getD i dR).cells)
def TblAt (w:World) (z:Nat) (v:Value) (t:T):Prop:=∃ vc vr,v=.agg #[vc,.int .i64 t.head,.int .i64 t.foot,vr,.int .i64 t.gap]∧ColsAt w z vc t.cols∧RowsAt w z vr t.rows

/-- what lies from block z on is as it was -/
structure Since (z:Nat) (w w':World):Prop where
 size:w.heap.size≤w'.heap.size
 block:∀ k,z≤k→k < w.heap.size→w'.heap[k]?=w.heap[k]?
theorem Since.of_below {z:Nat} {w w':World} (h:Below w.heap.size w w'):Since z w w':=⟨h.size,fun k _ hk=>h.block k hk⟩
theorem Since.refl (z:Nat) (w:World):Since z w w:=⟨Nat.le_refl _,fun _ _ _=>rfl⟩
theorem Since.trans {z:Nat} {a b c:World} (h:Since z a b) (k:Since z b c):Since z a c:=⟨Nat.le_trans h.size k.size,fun i h1 h2=>(k.block i h1 (Nat.lt_of_lt_of_le h2 h.size)).trans (h.block i h1 h2)⟩
theorem Since.set {z:Nat} {a w:World} (h:Since z a w) {p:Addr} (hp:p.block < z) (v:Value):Since z a (w.setCell p v) :=
 ⟨by simpa [World.setCell] using h.size,fun k h1 h2=>(Below.heap_setCell _ _ _ _ (by omega)).trans (h.block k h1 h2)⟩
theorem Since.alloc {z:Nat} {a w:World} (h:Since z a w) (o:Obj):Since z a (w.alloc o):=h.trans (Since.of_below (k_alloc (Below.refl _ _) _))
theorem Since.cell {z:Nat} {w w':World} (h:Since z w w') {b:Nat} (h1:z≤b) (h2:b < w.heap.size) (p:Nat):w'.cell? ⟨b,p,none⟩=w.cell? ⟨b,p,none⟩:=World.cell?_of_block (w:=w) (a:=⟨b,p,none⟩) (h.block b h1 h2)

theorem At.mono {w w':World} {z z':Nat} {v:Value} {n sz:Nat} {E E':Nat→Nat→Nat→Prop} (h:At w z v n sz E) (hz:w.heap.size≤w'.heap.size) (hzz:z'≤z) (hE:∀ i b o,i < n→b < w.heap.size→z≤b→E i b o→E' i b o):At w' z' v n sz E':=by
 obtain ⟨a,cap,e,h1,h2,hx⟩:=h
 refine ⟨a,cap,e,h1,h2,fun i hi=>?_⟩
 obtain ⟨b,off,ea,hb,hzb,he⟩:=hx i hi
 exact ⟨b,off,ea,Nat.lt_of_lt_of_le hb hz,Nat.le_trans hzz hzb,hE i b _ hi hb hzb he⟩
theorem CellIs.since {w w':World} {z b o:Nat} {x:C} (h:CellIs w b o x) (hb:b < w.heap.size) (hz:z≤b) (k:Since z w w'):CellIs w' b o x:=by
 unfold CellIs at h ⊢
 simp only [k.cell hz hb]
 exact h
theorem CellsAt.since {w w':World} {z:Nat} {v:Value} {cs:List C} (h:CellsAt w z v cs) (k:Since z w w'):CellsAt w' z v cs :=
 At.mono h k.size (Nat.le_refl _) (fun _ _ _ _ hb hz he=>⟨he.1.since hb hz k,he.2⟩)
theorem ColsAt.since {w w':World} {z:Nat} {v:Value} {cs:List (Int × Int)} (h:ColsAt w z v cs) (k:Since z w w'):ColsAt w' z v cs :=
 At.mono h k.size (Nat.le_refl _) (fun _ _ _ _ hb hz he=>⟨(k.cell hz hb _).trans he.1,(k.cell hz hb _).trans he.2⟩)
theorem RowsAt.since {w w':World} {z:Nat} {v:Value} {rs:List R} (h:RowsAt w z v rs) (k:Since z w w'):RowsAt w' z v rs :=
 At.mono h k.size (Nat.le_refl _) (fun _ _ _ _ hb hz ⟨u,h1,h2,h3⟩=>⟨u,(k.cell hz hb _).trans h1,(k.cell hz hb _).trans h2,h3.since k⟩)
theorem TblAt.since {w w':World} {z:Nat} {v:Value} {t:T} (h:TblAt w z v t) (k:Since z w w'):TblAt w' z v t:=by
 obtain ⟨vc,vr,e,h1,h2⟩:=h
 exact ⟨vc,vr,e,h1.since k,h2.since k⟩
theorem CellsAt.kept {w w':World} {z:Nat} {v:Value} {cs:List C} (h:CellsAt w z v cs) (k:Below w.heap.size w w'):CellsAt w' z v cs:=h.since (.of_below k)
theorem ColsAt.kept {w w':World} {z:Nat} {v:Value} {cs:List (Int × Int)} (h:ColsAt w z v cs) (k:Below w.heap.size w w'):ColsAt w' z v cs:=h.since (.of_below k)
theorem RowsAt.kept {w w':World} {z:Nat} {v:Value} {rs:List R} (h:RowsAt w z v rs) (k:Below w.heap.size w w'):RowsAt w' z v rs:=h.since (.of_below k)
theorem TblAt.kept {w w':World} {z:Nat} {v:Value} {t:T} (h:TblAt w z v t) (k:Below w.heap.size w w'):TblAt w' z v t:=h.since (.of_below k)
theorem CellsAt.base {w:World} {z z':Nat} {v:Value} {cs:List C} (h:CellsAt w z v cs) (hz:z'≤z):CellsAt w z' v cs:=At.mono h (Nat.le_refl _) hz (fun _ _ _ _ _ _ he=>he)
theorem ColsAt.base {w:World} {z z':Nat} {v:Value} {cs:List (Int × Int)} (h:ColsAt w z v cs) (hz:z'≤z):ColsAt w z' v cs:=At.mono h (Nat.le_refl _) hz (fun _ _ _ _ _ _ he=>he)
theorem RowsAt.base {w:World} {z z':Nat} {v:Value} {rs:List R} (h:RowsAt w z v rs) (hz:z'≤z):RowsAt w z' v rs:=At.mono h (Nat.le_refl _) hz (fun _ _ _ _ _ _ ⟨u,h1,h2,h3⟩=>⟨u,h1,h2,h3.base hz⟩)
/-- The element at a place: for a walk. -/
theorem At.get {w:World} {z:Nat} {v:Value} {n sz:Nat} {E:Nat→Nat→Nat→Prop} (h:At w z v n sz E) {i:Nat} (hi:i < n):∃ b off cap,v=.slice (some ⟨b,off,none⟩) n cap∧n≤cap∧cap≤maxLen∧b < w.heap.size∧E i b (off+i * sz):=by
 obtain ⟨a,cap,e,h1,h2,hx⟩:=h
 obtain ⟨b,off,rfl,hb,_,he⟩:=hx i hi
 exact ⟨b,off,cap,e,h1,h2,hb,he⟩
theorem At.form {w:World} {z:Nat} {v:Value} {n sz:Nat} {E:Nat→Nat→Nat→Prop} (h:At w z v n sz E):∃ a cap,v=.slice a n cap∧n≤maxLen:=by
 obtain ⟨a,cap,e,h1,h2,_⟩:=h
 exact ⟨a,cap,e,Nat.le_trans h1 h2⟩
/-- how much cells, rows, a table are: as the laws count it -/
def totC:List C→Nat
 | []=>0
 | x :: r=>1+x.s.size+totC r
def totR:List R→Nat
 | []=>0
 | x :: r=>1+totC x.cells+totR r
def totT (t:T):Nat:=t.cols.length+totR t.rows
/-- the texts of the first k cells together -/
def szTo (cs:List C) (k:Nat):Nat:=((cs.take k).map (fun x=>x.s.size)).sum
def rwTo (rs:List R) (k:Nat):Nat:=((rs.take k).map (fun x=>totC x.cells)).sum
end Go.Proofs.Ytggmjiddadjilaj
namespace Go.Proofs.Ytggmjiddadjilaj
open Go.RowKit

/-- a cell at its place -/
structure GC where
 row:Int
 col:Int
 rows:Int
 cols:Int
 ins:Int
/-- a grid -/
structure G where
 rows:Int
 cols:Int
 cells:List GC
def dG:GC:=⟨0,0,0,0,0⟩
def I64 (n:Int):Prop:=-9223372036854775808≤n∧n≤9223372036854775807
def GOk (x:GC):Prop:=I64 x.row∧I64 x.col∧I64 x.rows∧I64 x.cols∧I64 x.ins
/-- the five cells of a cell from an address on -/
def GIs (w:World) (b o:Nat) (x:GC):Prop :=
 w.cell? ⟨b,o,none⟩=some (.int .i64 x.row)∧w.cell? ⟨b,o+1,none⟩=some (.int .i64 x.col)∧w.cell? ⟨b,o+2,none⟩=some (.int .i64 x.rows) ∧
 w.cell? ⟨b,o+3,none⟩=some (.int .i64 x.cols)∧w.cell? ⟨b,o+4,none⟩=some (.int .i64 x.ins)
def GsAt (w:World) (z:Nat) (v:Value) (gs:List GC):Prop:=At w z v gs.length 5 (fun i b o=>GIs w b o (gs.getD i dG)∧GOk (gs.getD i dG))
def GrdAt (w:World) (z:Nat) (v:Value) (g:G):Prop:=∃ vc,v=.agg #[.int .i64 g.rows,.int .i64 g.cols,vc]∧GsAt w z vc g.cells

theorem GIs.since {w w':World} {z b o:Nat} {x:GC} (h:GIs w b o x) (hb:b < w.heap.size) (hz:z≤b) (k:Since z w w'):GIs w' b o x:=by
 unfold GIs at h ⊢
 simp only [k.cell hz hb]
 exact h
theorem GsAt.since {w w':World} {z:Nat} {v:Value} {gs:List GC} (h:GsAt w z v gs) (k:Since z w w'):GsAt w' z v gs :=
 At.mono h k.size (Nat.le_refl _) (fun _ _ _ _ hb hz he=>⟨he.1.since hb hz k,he.2⟩)
theorem GsAt.kept {w w':World} {z:Nat} {v:Value} {gs:List GC} (h:GsAt w z v gs) (k:Below w.heap.size w w'):GsAt w' z v gs:=h.since (.of_below k)
theorem GsAt.base {w:World} {z z':Nat} {v:Value} {gs:List GC} (h:GsAt w z v gs) (hz:z'≤z):GsAt w z' v gs:=At.mono h (Nat.le_refl _) hz (fun _ _ _ _ _ _ he=>he)

/-- the place of the first cell of a kind; -1, if there is none -/
def findTo (p:GC→Bool) (gs:List GC):Int:=match gs.findIdx? p with | some k=>(k:Int) | none=>-1
end Go.Proofs.Ytggmjiddadjilaj
namespace Go.Proofs.Ytggmjiddadjilaj
open Go.RowKit

theorem newestB (w:World) (q:Obj):(w.alloc q).heap[w.heap.size]?=some q:=by show (w.heap.push q)[w.heap.size]?=_;simp
theorem cellB {w:World} {g p:Nat} {arr:Array Value} {t:TypeId} (h:w.heap[g]?=some (.cells arr t)):w.cell? ⟨g,p,none⟩=arr[p]?:=Joins.cell_of_block h p
theorem freeB {w:World} {g p:Nat} {arr:Array Value} {t:TypeId} (h:w.heap[g]?=some (.cells arr t)):w.frozen? ⟨g,p,none⟩=false:=Joins.unfrozen_of_block h p
theorem setB {w:World} {g p:Nat} {arr:Array Value} {t:TypeId} (h:w.heap[g]?=some (.cells arr t)) (v:Value):(w.setCell ⟨g,p,none⟩ v).heap[g]?=some (.cells (arr.setIfInBounds p v) t):=Joins.block_setCell h v
/-- what is left of n behind m: -1, if that is less than nothing -/
def leftOf (n:Int) (m:Nat):Int:=if (m:Int)≤n then n - m else -1
theorem retI64 {a b:Int} (h:a=b):Ending.returned (.int .i64 a)=.returned (.int .i64 b):=by rw [h]
end Go.Proofs.Ytggmjiddadjilaj
namespace Go.Proofs.Ytggmjiddadjilaj
open Go.RowKit

def inB (n lo hi:Int):Bool:=decide (lo≤n∧n≤hi)
theorem retB {a b:Bool} (h:a=b):Ending.returned (.bool a)=.returned (.bool b):=by rw [h]
theorem inB_true {n lo hi:Int} (h1:lo≤n) (h2:n≤hi):inB n lo hi=true:=by simp [inB,h1,h2]
theorem inB_false {n lo hi:Int} (h:¬ (lo≤n∧n≤hi)):inB n lo hi=false:=by simp only [inB,h,decide_false]
end Go.Proofs.Ytggmjiddadjilaj
namespace Go.Proofs.Ytggmjiddadjilaj
open Go.RowKit

theorem within_any (n lo hi:Int) (w:World) :
  Calls Try.prog 36 #[.int .i64 n,.int .i64 lo,.int .i64 hi] w fun e w'=>e=.returned (.bool (inB n lo hi))∧w'=w:=by
 by_cases h1:lo≤n
 ·by_cases h2:n≤hi
  ·have HB:Hid (inB n lo hi=true):=inB_true h1 h2
   go_enter Try.func36,Try.ntmps36
   go_wp2
   go_ret
   exact ⟨retB HB.out.symm,rfl⟩
  ·have HB:Hid (inB n lo hi=false):=inB_false (by omega)
   go_enter Try.func36,Try.ntmps36
   go_wp2
   go_ret
   exact ⟨retB HB.out.symm,rfl⟩
 ·have HB:Hid (inB n lo hi=false):=inB_false (by omega)
  go_enter Try.func36,Try.ntmps36
  go_wp2
  go_ret
  exact ⟨retB HB.out.symm,rfl⟩

theorem l1In_any (n lo hi:Int) (w:World) :
  Calls Try.prog 39 #[.int .i64 n,.int .i64 lo,.int .i64 hi] w fun e w'=>e=.returned (.bool (inB n lo hi))∧w'=w:=by
 by_cases h1:lo≤n
 ·by_cases h2:n≤hi
  ·have HB:Hid (inB n lo hi=true):=inB_true h1 h2
   go_enter Try.func39,Try.ntmps39
   go_wp2
   go_ret
   exact ⟨retB HB.out.symm,rfl⟩
  ·have HB:Hid (inB n lo hi=false):=inB_false (by omega)
   go_enter Try.func39,Try.ntmps39
   go_wp2
   go_ret
   exact ⟨retB HB.out.symm,rfl⟩
 ·have HB:Hid (inB n lo hi=false):=inB_false (by omega)
  go_enter Try.func39,Try.ntmps39
  go_wp2
  go_ret
  exact ⟨retB HB.out.symm,rfl⟩
end Go.Proofs.Ytggmjiddadjilaj
namespace Go.Proofs.Ytggmjiddadjilaj
open Go.RowKit

/-- a world in which what was in memory is as it was -/
structure BW (w:World) where
 u:World
 h:Below w.heap.size w u
theorem bw_some (w:World):Nonempty (BW w):=⟨⟨w,Below.refl _ _⟩⟩
theorem wp_region_quiet_below {P:Program} {id:Nat} {Q:Exit→Act→World→Prop} {a:Act} {w:World} {l:List Oper} (hm:P.follows .mixedOrders=true) (hB:Region.lexB .any l.toArray=true)
  (h:wpQuiet P l.toArray (fun w'=>∃ p:BW w,w'=p.u) (fun a'=>∀ w',(∃ p:BW w,w'=p.u)→Q .normal a' w') l a):(Code.region id l.toArray true).wp P Q a w :=
 wp_region_quiet (C:=fun w'=>∃ p:BW w,w'=p.u) hm hB ⟨⟨_,k_drew (Below.refl _ _)⟩,rfl⟩ (by simpa using h)
theorem bw_of {P:Program} {f:FuncId} {args:Array Value} {w:World} {p:BW w} {v:Value} (h:Calls P f args p.u fun e w'=>e=.returned v∧Below p.u.heap.size p.u w') :
  Calls P f args p.u fun e w''=>e=.returned v∧∃ p:BW w,w''=p.u :=
 h.mono fun _ _ ⟨he,hb⟩=>⟨he,⟨_,k_trans p.h hb⟩,rfl⟩
theorem bw_same {P:Program} {f:FuncId} {args:Array Value} {w:World} {p:BW w} {v:Value} (h:Calls P f args p.u fun e w'=>e=.returned v∧w'=p.u) :
  Calls P f args p.u fun e w''=>e=.returned v∧∃ p:BW w,w''=p.u :=
 h.mono fun _ _ ⟨he,hb⟩=>⟨he,p,hb⟩
theorem bw_cell {w:World} {a:Addr} {v:Value} (hb:a.block < w.heap.size) (h:w.cell? a=some v) (p:BW w):p.u.cell? a=some v:=(p.h.cell hb).trans h
end Go.Proofs.Ytggmjiddadjilaj
namespace Go.Proofs.Ytggmjiddadjilaj
open Go.RowKit

theorem row_form {w:World} {base:Nat} {e:TypeId} {sz:Nat} {v:Value} {m:Nat} {xs:List Value} (h:w.ownsRow base e sz v m xs):∃ a cap,v=.slice a m cap∧m≤maxLen:=by
 rcases h.2 with ⟨rfl,rfl⟩ | ⟨g,cap,cur,rfl,_,_,h1,h2,_⟩
 ·exact ⟨none,0,rfl,by unfold maxLen;omega⟩
 ·exact ⟨_,cap,rfl,Nat.le_trans h1 h2⟩
/-- elements of so many cells, one behind the other -/
theorem flat_get {α:Type} (f:α→List Value) (sz:Nat) (hf:∀ x,(f x).length=sz) (l:List α) (i:Nat) (hi:i < l.length) (j:Nat) (hj:j < sz):(l.flatMap f)[i * sz+j]?=(f l[i])[j]?:=by
 induction l generalizing i with
 | nil=>simp at hi
 | cons a t ih =>
  rw [List.flatMap_cons]
  cases i with
  | zero=>rw [List.getElem?_append_left (by rw [hf];omega)];simp
  | succ i =>
   rw [List.getElem?_append_right (by rw [hf,Nat.succ_mul];omega),hf]
   have e:(i+1) * sz+j - sz=i * sz+j:=by rw [Nat.succ_mul];omega
   rw [e,ih i (by simpa using hi)]
   simp
theorem flat_len {α:Type} (f:α→List Value) (sz:Nat) (hf:∀ x,(f x).length=sz) (l:List α):(l.flatMap f).length=l.length * sz:=by
 induction l with
 | nil=>simp
 | cons a t ih=>rw [List.flatMap_cons,List.length_append,hf,ih,List.length_cons,Nat.succ_mul];omega
theorem row_cell {w:World} {base:Nat} {e:TypeId} {sz:Nat} {m:Nat} {xs:List Value} {g cap:Nat} (h:w.ownsRow base e sz (.slice (some ⟨g,0,none⟩) m cap) m xs) {k:Nat} {u:Value} (hk:xs[k]?=some u):w.cell? ⟨g,k,none⟩=some u:=by
 have hl:k < xs.length:=(List.getElem?_eq_some_iff.1 hk).1
 rcases h.2 with ⟨e,_⟩ | ⟨g',cap',cur,e,_,hc,_,_,_,ht⟩
 ·simp at e
 ·simp at e
  obtain ⟨rfl,rfl⟩:=e
  rw [cellB hc,← Array.getElem?_toList]
  rw [← ht,List.getElem?_take_of_lt (by rw [h.1] at hl;exact hl)] at hk
  exact hk
theorem news_at {w:World} {g:Nat} {arr:Array Value} {t:TypeId} (h:w.heap[g]?=some (.cells arr t)):∀ j u,arr.toList[j]?=some u→w.cell? ((⟨g,0,none⟩:Addr).add j)=some u:=fun j u hu=>by
 have e:(⟨g,0,none⟩:Addr).add j=⟨g,j,none⟩:=by simp [Addr.add];intro h;exact h.symm
 rw [e,cellB h,← Array.getElem?_toList]
 exact hu
end Go.Proofs.Ytggmjiddadjilaj
namespace Go.Proofs.Ytggmjiddadjilaj
open Go.RowKit

/-- All that was in memory is as it was, but for block r. -/
structure Bk (r:Nat) (w w':World):Prop where
 os:w'.os=w.os
 tape:w'.tape=w.tape
 output:w'.output=w.output
 size:w.heap.size≤w'.heap.size
 block:∀ k,k < w.heap.size→k ≠ r→w'.heap[k]?=w.heap[k]?
theorem Bk.refl (r:Nat) (w:World):Bk r w w:=⟨rfl,rfl,rfl,Nat.le_refl _,fun _ _ _=>rfl⟩
theorem Bk.trans {r:Nat} {a b c:World} (h:Bk r a b) (k:Bk r b c):Bk r a c :=
 ⟨k.os.trans h.os,k.tape.trans h.tape,k.output.trans h.output,Nat.le_trans h.size k.size,fun i hi hr=>(k.block i (Nat.lt_of_lt_of_le hi h.size) hr).trans (h.block i hi hr)⟩
theorem Bk.alloc {r:Nat} {a w:World} (h:Bk r a w) (o:Obj):Bk r a (w.alloc o) :=
 h.trans ⟨rfl,rfl,rfl,by simp,fun k hk _=>Below.heap_alloc _ _ _ hk⟩
theorem Bk.drewN {r:Nat} {a w:World} (h:Bk r a w) (n:Nat):Bk r a (w.drewN n):=⟨h.os,h.tape,h.output,h.size,h.block⟩
theorem Bk.drew {r:Nat} {a w:World} (h:Bk r a w):Bk r a w.drew:=⟨h.os,h.tape,h.output,h.size,h.block⟩
theorem Bk.set {r:Nat} {a w:World} (h:Bk r a w) {p:Addr} (hp:p.block=r∨a.heap.size≤p.block) (u:Value):Bk r a (w.setCell p u) :=
 ⟨h.os,h.tape,h.output,by simpa [World.setCell] using h.size,fun k hk hr=>(Below.heap_setCell _ _ _ _ (by omega)).trans (h.block k hk hr)⟩
theorem Bk.below {r:Nat} {w w':World} (h:Bk r w w') {n:Nat} (hn:n≤w.heap.size) (hr:n≤r):Below n w w':=⟨h.os,h.tape,h.output,h.size,fun k hk=>h.block k (by omega) (by omega)⟩
theorem Bk.of_below {r:Nat} {w w':World} (h:Below w.heap.size w w'):Bk r w w':=⟨h.os,h.tape,h.output,h.size,fun k hk _=>h.block k hk⟩
theorem Bk.cell {r:Nat} {w w':World} (h:Bk r w w') {p:Addr} (hp:p.block < w.heap.size) (hr:p.block ≠ r):w'.cell? p=w.cell? p:=World.cell?_of_block (w:=w) (h.block p.block hp hr)
theorem Bk.frozen {r:Nat} {w w':World} (h:Bk r w w') {p:Addr} (hp:p.block < w.heap.size) (hr:p.block ≠ r):w'.frozen? p=w.frozen? p:=World.frozen?_of_block (w:=w) (h.block p.block hp hr)
theorem Bk.cells {r:Nat} {w w':World} (h:Bk r w w'):(∀ b o,b < w.heap.size→b ≠ r→w'.cell? ⟨b,o,none⟩=w.cell? ⟨b,o,none⟩)∧(∀ b o,b < w.heap.size→b ≠ r→w'.frozen? ⟨b,o,none⟩=w.frozen? ⟨b,o,none⟩) :=
 ⟨fun b o h1 h2=>h.cell (p:=⟨b,o,none⟩) h1 h2,fun b o h1 h2=>h.frozen (p:=⟨b,o,none⟩) h1 h2⟩
end Go.Proofs.Ytggmjiddadjilaj
namespace Go.Proofs.Ytggmjiddadjilaj
open Go.RowKit

/-- a cell's eleven cells -/
def cellVs (x:C):List Value:=[.string x.s,.int .i64 x.c,.int .i64 x.r,.int .i64 x.a1,.int .i64 x.b1,.int .i64 x.a2,.int .i64 x.b2,.int .i64 x.a3,.int .i64 x.b3,.int .i64 x.a4,.int .i64 x.b4]
def colVs (p:Int × Int):List Value:=[.int .i64 p.1,.int .i64 p.2]
def rowVs (p:Value × R):List Value:=[p.1,.bool p.2.whole]
def OwnC (w:World) (base:Nat) (u:Value) (cs:List C):Prop:=w.ownsRow base 41 11 u cs.length (cs.flatMap cellVs)
def OwnCol (w:World) (base:Nat) (v:Value) (ps:List (Int × Int)):Prop:=w.ownsRow base 84 2 v ps.length (ps.flatMap colVs)
/-- rows, each with its slice of cells -/
structure OwnR (w:World) (base:Nat) (v:Value) (ur:List (Value × R)):Prop where
 own:w.ownsRow base 52 2 v ur.length (ur.flatMap rowVs)
 cells:∀ p ∈ ur,OwnC w base p.1 p.2.cells
 apart:ur.Pairwise fun p q=>p.1.ownBlock=none∨p.1.ownBlock ≠ q.1.ownBlock

/-- what stays: all blocks from n on but these two -/
structure Off (n:Nat) (b1 b2:Option Nat) (w w':World):Prop where
 size:w.heap.size≤w'.heap.size
 block:∀ k,n≤k→k < w.heap.size→some k ≠ b1→some k ≠ b2→w'.heap[k]?=w.heap[k]?
theorem Off.bk {n r:Nat} {b1 b2:Option Nat} {w w':World} (h:Bk r w w') (hr:r < n):Off n b1 b2 w w':=⟨h.size,fun k hk hl _ _=>h.block k hl (by omega)⟩
theorem Off.grown {n:Nat} {b1 b2:Option Nat} {w w':World} (h:w.grownBy w' b2):Off n b1 b2 w w':=⟨h.size,fun k _ hl _ h2=>h.block k hl h2⟩
theorem Off.set {n g:Nat} {b2:Option Nat} (w:World) (p:Addr) (hp:p.block=g) (v:Value):Off n (some g) b2 w (w.setCell p v):=⟨by simp [World.setCell],fun k _ _ h1 _=>Below.heap_setCell _ _ _ _ (fun e=>h1 (by rw [e,hp]))⟩

theorem row_off {w w':World} {base n:Nat} {e:TypeId} {sz:Nat} {v:Value} {m:Nat} {xs:List Value} {b1 b2:Option Nat} (h:w.ownsRow base e sz v m xs) (k:Off n b1 b2 w w') (hn:n≤base) (h1:v.ownBlock=none∨v.ownBlock ≠ b1) (h2:v.ownBlock=none∨v.ownBlock ≠ b2):w'.ownsRow base e sz v m xs :=
 ⟨h.1,h.2.elim Or.inl (fun ⟨g,cap,cur,hv,hg,hc,q⟩=>Or.inr ⟨g,cap,cur,hv,hg,(k.block g (by omega) (Array.getElem?_eq_some_iff.1 hc).1
  (fun e=>by subst hv;rcases h1 with h1 | h1 <;> simp [Value.ownBlock] at h1;exact h1 e)
  (fun e=>by subst hv;rcases h2 with h2 | h2 <;> simp [Value.ownBlock] at h2;exact h2 e)).trans hc,q⟩)⟩
/-- a block's kind tells blocks apart -/
theorem row_ne {w:World} {base base':Nat} {e e':TypeId} {sz sz':Nat} {v v':Value} {m m':Nat} {xs xs':List Value} (h:w.ownsRow base e sz v m xs) (h':w.ownsRow base' e' sz' v' m' xs') (he:e ≠ e'):v.ownBlock=none∨v.ownBlock ≠ v'.ownBlock:=by
 rcases h.2 with ⟨rfl,_⟩ | ⟨g,cap,cur,rfl,_,hc,_⟩
 ·exact .inl rfl
 ·refine .inr (fun e1=>?_)
  rcases h'.2 with ⟨rfl,_⟩ | ⟨g',cap',cur',rfl,_,hc',_⟩
  ·simp [Value.ownBlock] at e1
  ·simp [Value.ownBlock] at e1
   subst e1
   rw [hc] at hc'
   simp at hc'
   exact he hc'.2
theorem row_ne_block {w:World} {base:Nat} {e e':TypeId} {sz:Nat} {v:Value} {m:Nat} {xs:List Value} {g:Nat} {cur:Array Value} (h:w.ownsRow base e sz v m xs) (h':w.heap[g]?=some (.cells cur e')) (he:e ≠ e'):v.ownBlock=none∨v.ownBlock ≠ some g:=by
 rcases h.2 with ⟨rfl,_⟩ | ⟨g',cap,cur',rfl,_,hc,_⟩
 ·exact .inl rfl
 ·refine .inr (fun e1=>?_)
  simp [Value.ownBlock] at e1
  subst e1
  rw [hc] at h'
  simp at h'
  exact he h'.2
theorem row_lt {w:World} {base:Nat} {e:TypeId} {sz:Nat} {v:Value} {m:Nat} {xs:List Value} (h:w.ownsRow base e sz v m xs) {b:Nat} (hb:v.ownBlock=some b):base≤b∧b < w.heap.size:=by
 rcases h.2 with ⟨rfl,_⟩ | ⟨g,cap,cur,rfl,hg,hc,_⟩
 ·simp [Value.ownBlock] at hb
 ·simp [Value.ownBlock] at hb
  subst hb
  exact ⟨hg,(Array.getElem?_eq_some_iff.1 hc).1⟩
theorem row_base {w:World} {base base':Nat} {e:TypeId} {sz:Nat} {v:Value} {m:Nat} {xs:List Value} (h:w.ownsRow base e sz v m xs) (hb:base'≤base):w.ownsRow base' e sz v m xs :=
 ⟨h.1,h.2.elim Or.inl (fun ⟨g,cap,cur,hv,hg,q⟩=>Or.inr ⟨g,cap,cur,hv,by omega,q⟩)⟩
theorem OwnR.off {w w':World} {base n:Nat} {v:Value} {ur:List (Value × R)} {b1 b2:Option Nat} (h:OwnR w base v ur) (k:Off n b1 b2 w w') (hn:n≤base) (h1:v.ownBlock=none∨v.ownBlock ≠ b1) (h2:v.ownBlock=none∨v.ownBlock ≠ b2)
  (hc:∀ p ∈ ur,(p.1.ownBlock=none∨p.1.ownBlock ≠ b1)∧(p.1.ownBlock=none∨p.1.ownBlock ≠ b2)):OwnR w' base v ur :=
 ⟨row_off h.own k hn h1 h2,fun p hp=>row_off (h.cells p hp) k hn (hc p hp).1 (hc p hp).2,h.apart⟩
/-- what is not among two blocks -/
def OffV (v:Value) (b1 b2:Option Nat):Prop:=(v.ownBlock=none∨v.ownBlock ≠ b1)∧(v.ownBlock=none∨v.ownBlock ≠ b2)

theorem getD_get {α:Type} {l:List α} {i:Nat} (d:α) (h:i < l.length):l.getD i d=l[i]:=by simp [List.getD,h]
theorem OwnC.at {w:World} {base:Nat} {u:Value} {cs:List C} (h:OwnC w base u cs) (hs:∀ x ∈ cs,x.s.size≤61):CellsAt w base u cs:=by
 rcases h.2 with ⟨rfl,hn⟩ | ⟨g,cap,cur,rfl,hg,hc,h1,h2,_⟩
 ·exact ⟨none,0,by rw [hn],by omega,by unfold maxLen;omega,fun i hi=>by omega⟩
 ·refine ⟨_,cap,rfl,h1,h2,fun i hi=>⟨g,0,rfl,(Array.getElem?_eq_some_iff.1 hc).1,hg,?_,?_⟩⟩
  ·have hx:∀ j,j < 11→w.cell? ⟨g,i * 11+j,none⟩=(cellVs cs[i])[j]?:=fun j hj=>by
    have e:=flat_get cellVs 11 (fun _=>rfl) cs i hi j hj
    rw [row_cell h (u:=(cellVs cs[i])[j]'(by show j < 11;exact hj)) (by rw [e];simp)]
    simp
   rw [getD_get dC hi,Nat.zero_add]
   exact ⟨hx 0 (by omega),hx 1 (by omega),hx 2 (by omega),hx 3 (by omega),hx 4 (by omega),hx 5 (by omega),hx 6 (by omega),hx 7 (by omega),hx 8 (by omega),hx 9 (by omega),hx 10 (by omega)⟩
  ·rw [getD_get dC hi]
   have:=hs _ (List.getElem_mem hi)
   unfold maxLen
   omega
theorem OwnCol.at {w:World} {base:Nat} {u:Value} {ps:List (Int × Int)} (h:OwnCol w base u ps):ColsAt w base u ps:=by
 rcases h.2 with ⟨rfl,hn⟩ | ⟨g,cap,cur,rfl,hg,hc,h1,h2,_⟩
 ·exact ⟨none,0,by rw [hn],by omega,by unfold maxLen;omega,fun i hi=>by omega⟩
 ·refine ⟨_,cap,rfl,h1,h2,fun i hi=>⟨g,0,rfl,(Array.getElem?_eq_some_iff.1 hc).1,hg,?_⟩⟩
  have hx:∀ j,j < 2→w.cell? ⟨g,i * 2+j,none⟩=(colVs ps[i])[j]?:=fun j hj=>by
   have e:=flat_get colVs 2 (fun _=>rfl) ps i hi j hj
   rw [row_cell h (u:=(colVs ps[i])[j]'(by show j < 2;exact hj)) (by rw [e];simp)]
   simp
  dsimp only
  rw [getD_get (0,0) hi,Nat.zero_add]
  exact ⟨hx 0 (by omega),hx 1 (by omega)⟩
theorem OwnR.at {w:World} {base:Nat} {v:Value} {ur:List (Value × R)} (h:OwnR w base v ur) (hs:∀ p ∈ ur,∀ x ∈ p.2.cells,x.s.size≤61):RowsAt w base v (ur.map (·.2)):=by
 have hl:(ur.map (·.2)).length=ur.length:=by simp
 rcases h.own.2 with ⟨rfl,hn⟩ | ⟨g,cap,cur,rfl,hg,hc,h1,h2,_⟩
 ·exact ⟨none,0,by rw [hl,hn],by rw [hl];omega,by unfold maxLen;omega,fun i hi=>by rw [hl] at hi;omega⟩
 ·refine ⟨_,cap,by rw [hl],by rw [hl];exact h1,h2,fun i hi=>⟨g,0,rfl,(Array.getElem?_eq_some_iff.1 hc).1,hg,?_⟩⟩
  rw [hl] at hi
  have hx:∀ j,j < 2→w.cell? ⟨g,i * 2+j,none⟩=(rowVs ur[i])[j]?:=fun j hj=>by
   have e:=flat_get rowVs 2 (fun _=>rfl) ur i hi j hj
   rw [row_cell h.own (u:=(rowVs ur[i])[j]'(by show j < 2;exact hj)) (by rw [e];simp)]
   simp
  have hm:=List.getElem_mem hi
  dsimp only
  rw [getD_get dR (by rw [hl];exact hi),Nat.zero_add,List.getElem_map]
  exact ⟨ur[i].1,hx 0 (by omega),hx 1 (by omega),(h.cells _ hm).at (hs _ hm)⟩
theorem OwnR.base {w:World} {base base':Nat} {v:Value} {ur:List (Value × R)} (h:OwnR w base v ur) (hb:base'≤base):OwnR w base' v ur:=⟨row_base h.own hb,fun p hp=>row_base (h.cells p hp) hb,h.apart⟩
end Go.Proofs.Ytggmjiddadjilaj
