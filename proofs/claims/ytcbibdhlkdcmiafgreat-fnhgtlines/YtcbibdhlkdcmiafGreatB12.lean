/-
  PROVED HERE: what a table is in memory, for the other texts of this claim: cells, columns and rows, each in its place; it stays where what was in memory stays. Also: small laws on blocks of cells in memory, for the other texts of this claim. Also: small laws on rows that a call owns, whatever their elements are. Also: what is as it was but one block, for the other texts of this claim. Also: what the drawing reader's l20Open and pick answer: a reader over the code; a number from 0 to n - 1; of what was in memory nothing is turned but the reader's own place. Also: a region that draws its order may be walked by what holds between two of its operations, whichever have been carried out. Also: as AnyInv's law, and besides: what an operation hangs on has been carried out ahead of it.
-/
import Derived.Test.YtcbibdhlkdcmiafGreatB1
import Derived.Laws.MakeOwn
import Derived.OwnWalk
import Derived.Lib.SmallJoins
import Derived.Laws.AppendOwn
import Derived.WalkLawsBesides
import Derived.WalkSpells
import Derived.Deep.QuietTactic
import Derived.BigQuiet
import Derived.Laws.BitsAllLaws
import Derived.RegionTactic
import Derived.OpenShut
import Derived.Orders
namespace Go.Proofs.YtcbibdhlkdcmiafGreat
open Go.RowKit

/-- a cell -/
structure C where
 s:ByteArray
 c:Int
 r:Int
 a1:Int
 b1:Int
 a2:Int
 b2:Int
 a3:Int
 b3:Int
 a4:Int
 b4:Int
/-- a row: its cells, whether it is whole -/
structure R where
 cells:List C
 whole:Bool
/-- a table -/
structure T where
 cols:List (Int × Int)
 head:Int
 foot:Int
 rows:List R
 gap:Int
/-- what stands where no cell, no row is -/
def dC:C:=⟨ByteArray.empty,0,0,0,0,0,0,0,0,0,0⟩
def dR:R:=⟨[],false⟩

/-- the eleven cells of a cell from an address on -/
def CellIs (w:World) (b o:Nat) (x:C):Prop :=
 w.cell? ⟨b,o,none⟩=some (.string x.s)∧w.cell? ⟨b,o+1,none⟩=some (.int .i64 x.c)∧w.cell? ⟨b,o+2,none⟩=some (.int .i64 x.r) ∧
 w.cell? ⟨b,o+3,none⟩=some (.int .i64 x.a1)∧w.cell? ⟨b,o+4,none⟩=some (.int .i64 x.b1)∧w.cell? ⟨b,o+5,none⟩=some (.int .i64 x.a2)∧w.cell? ⟨b,o+6,none⟩=some (.int .i64 x.b2) ∧
 w.cell? ⟨b,o+7,none⟩=some (.int .i64 x.a3)∧w.cell? ⟨b,o+8,none⟩=some (.int .i64 x.b3)∧w.cell? ⟨b,o+9,none⟩=some (.int .i64 x.a4)∧w.cell? ⟨b,o+10,none⟩=some (.int .i64 x.b4)

/-- a slice whose elements, sz cells each, are such; they lie in block z or behind it -/
def At (w:World) (z:Nat) (v:Value) (n sz:Nat) (E:Nat→Nat→Nat→Prop):Prop :=
 ∃ (a:Option Addr) (cap:Nat),v=.slice a n cap∧n≤cap∧cap≤maxLen∧∀ i,i < n→∃ b off,a=some ⟨b,off,none⟩∧b < w.heap.size∧z≤b∧E i b (off+i * sz)

def CellsAt (w:World) (z:Nat) (v:Value) (cs:List C):Prop:=At w z v cs.length 11 (fun i b o=>CellIs w b o (cs.getD i dC)∧(cs.getD i dC).s.size≤maxLen)
def ColsAt (w:World) (z:Nat) (v:Value) (ps:List (Int × Int)):Prop:=At w z v ps.length 2 (fun i b o=>w.cell? ⟨b,o,none⟩=some (.int .i64 (ps.getD i (0,0)).1)∧w.cell? ⟨b,o+1,none⟩=some (.int .i64 (ps.getD i (0,0)).2))
def RowsAt (w:World) (z:Nat) (v:Value) (rs:List R):Prop:=At w z v rs.length 2 (fun i b o=>∃ u,w.cell? ⟨b,o,none⟩=some u∧w.cell? ⟨b,o+1,none⟩=some (.bool (rs.getD i dR).whole)∧CellsAt w z u (rs.getD i dR).cells)
def TblAt (w:World) (z:Nat) (v:Value) (t:T):Prop:=∃ vc vr,v=.agg #[vc,.int .i64 t.head,.int .i64 t.foot,vr,.int .i64 t.gap]∧ColsAt w z vc t.cols∧RowsAt w z vr t.rows

/-- what lies from block z on is as it was -/
structure Since (z:Nat) (w w':World):Prop where
 size:w.heap.size≤w'.heap.size
 block:∀ k,z≤k→k < w.heap.size→w'.heap[k]?=w.heap[k]?
theorem Since.of_below {z:Nat} {w w':World} (h:Below w.heap.size w w'):Since z w w':=⟨h.size,fun k _ hk=>h.block k hk⟩
theorem Since.refl (z:Nat) (w:World):Since z w w:=⟨Nat.le_refl _,fun _ _ _=>rfl⟩
theorem Since.trans {z:Nat} {a b c:World} (h:Since z a b) (k:Since z b c):Since z a c:=⟨Nat.le_trans h.size k.size,fun i h1 h2=>(k.block i h1 (Nat.lt_of_lt_of_le h2 h.size)).trans (h.block i h1 h2)⟩
theorem Since.set {z:Nat} {a w:World} (h:Since z a w) {p:Addr} (hp:p.block < z) (v:Value):Since z a (w.setCell p v) :=
 ⟨by simpa [World.setCell] using h.size,fun k h1 h2=>(Below.heap_setCell _ _ _ _ (by omega)).trans (h.block k h1 h2)⟩
theorem Since.alloc {z:Nat} {a w:World} (h:Since z a w) (o:Obj):Since z a (w.alloc o):=h.trans (Since.of_below (k_alloc (Below.refl _ _) _))
theorem Since.cell {z:Nat} {w w':World} (h:Since z w w') {b:Nat} (h1:z≤b) (h2:b < w.heap.size) (p:Nat):w'.cell? ⟨b,p,none⟩=w.cell? ⟨b,p,none⟩:=World.cell?_of_block (w:=w) (a:=⟨b,p,none⟩) (h.block b h1 h2)

theorem At.mono {w w':World} {z z':Nat} {v:Value} {n sz:Nat} {E E':Nat→Nat→Nat→Prop} (h:At w z v n sz E) (hz:w.heap.size≤w'.heap.size) (hzz:z'≤z) (hE:∀ i b o,i < n→b < w.heap.size→z≤b→E i b o→E' i b o):At w' z' v n sz E':=by
 obtain ⟨a,cap,e,h1,h2,hx⟩:=h
 refine ⟨a,cap,e,h1,h2,fun i hi=>?_⟩
 obtain ⟨b,off,ea,hb,hzb,he⟩:=hx i hi
 exact ⟨b,off,ea,Nat.lt_of_lt_of_le hb hz,Nat.le_trans hzz hzb,hE i b _ hi hb hzb he⟩
theorem CellIs.since {w w':World} {z b o:Nat} {x:C} (h:CellIs w b o x) (hb:b < w.heap.size) (hz:z≤b) (k:Since z w w'):CellIs w' b o x:=by
 unfold CellIs at h ⊢
 simp only [k.cell hz hb]
 exact h
theorem CellsAt.since {w w':World} {z:Nat} {v:Value} {cs:List C} (h:CellsAt w z v cs) (k:Since z w w'):CellsAt w' z v cs :=
 At.mono h k.size (Nat.le_refl _) (fun _ _ _ _ hb hz he=>⟨he.1.since hb hz k,he.2⟩)
theorem ColsAt.since {w w':World} {z:Nat} {v:Value} {cs:List (Int × Int)} (h:ColsAt w z v cs) (k:Since z w w'):ColsAt w' z v cs :=
 At.mono h k.size (Nat.le_refl _) (fun _ _ _ _ hb hz he=>⟨(k.cell hz hb _).trans he.1,(k.cell hz hb _).trans he.2⟩)
theorem RowsAt.since {w w':World} {z:Nat} {v:Value} {rs:List R} (h:RowsAt w z v rs) (k:Since z w w'):RowsAt w' z v rs :=
 At.mono h k.size (Nat.le_refl _) (fun _ _ _ _ hb hz ⟨u,h1,h2,h3⟩=>⟨u,(k.cell hz hb _).trans h1,(k.cell hz hb _).trans h2,h3.since k⟩)
theorem TblAt.since {w w':World} {z:Nat} {v:Value} {t:T} (h:TblAt w z v t) (k:Since z w w'):TblAt w' z v t:=by
 obtain ⟨vc,vr,e,h1,h2⟩:=h
 exact ⟨vc,vr,e,h1.since k,h2.since k⟩
theorem CellsAt.kept {w w':World} {z:Nat} {v:Value} {cs:List C} (h:CellsAt w z v cs) (k:Below w.heap.size w w'):CellsAt w' z v cs:=h.since (.of_below k)
theorem ColsAt.kept {w w':World} {z:Nat} {v:Value} {cs:List (Int × Int)} (h:ColsAt w z v cs) (k:Below w.heap.size w w'):ColsAt w' z v cs:=h.since (.of_below k)
theorem RowsAt.kept {w w':World} {z:Nat} {v:Value} {rs:List R} (h:RowsAt w z v rs) (k:Below w.heap.size w w'):RowsAt w' z v rs:=h.since (.of_below k)
theorem TblAt.kept {w w':World} {z:Nat} {v:Value} {t:T} (h:TblAt w z v t) (k:Below w.heap.size w w'):TblAt w' z v t:=h.since (.of_below k)
theorem CellsAt.base {w:World} {z z':Nat} {v:Value} {cs:List C} (h:CellsAt w z v cs) (hz:z'≤z):CellsAt w z' v cs:=At.mono h (Nat.le_refl _) hz (fun _ _ _ _ _ _ he=>he)
theorem ColsAt.base {w:World} {z z':Nat} {v:Value} {cs:List (Int × Int)} (h:ColsAt w z v cs) (hz:z'≤z):ColsAt w z' v cs:=At.mono h (Nat.le_refl _) hz (fun _ _ _ _ _ _ he=>he)
theorem RowsAt.base {w:World} {z z':Nat} {v:Value} {rs:List R} (h:RowsAt w z v rs) (hz:z'≤z):RowsAt w z' v rs:=At.mono h (Nat.le_refl _) hz (fun _ _ _ _ _ _ ⟨u,h1,h2,h3⟩=>⟨u,h1,h2,h3.base hz⟩)
/-- The element at a place: for a walk. -/
theorem At.get {w:World} {z:Nat} {v:Value} {n sz:Nat} {E:Nat→Nat→Nat→Prop} (h:At w z v n sz E) {i:Nat} (hi:i < n):∃ b off cap,v=.slice (some ⟨b,off,none⟩) n cap∧n≤cap∧cap≤maxLen∧b < w.heap.size∧E i b (off+i * sz):=by
 obtain ⟨a,cap,e,h1,h2,hx⟩:=h
 obtain ⟨b,off,rfl,hb,_,he⟩:=hx i hi
 exact ⟨b,off,cap,e,h1,h2,hb,he⟩
theorem At.form {w:World} {z:Nat} {v:Value} {n sz:Nat} {E:Nat→Nat→Nat→Prop} (h:At w z v n sz E):∃ a cap,v=.slice a n cap∧n≤maxLen:=by
 obtain ⟨a,cap,e,h1,h2,_⟩:=h
 exact ⟨a,cap,e,Nat.le_trans h1 h2⟩
theorem sum_take_succ {α:Type} (f:α→Nat) (l:List α) (k:Nat) (h:k < l.length):((l.take (k+1)).map f).sum=((l.take k).map f).sum+f l[k]:=by
 rw [List.take_succ_eq_append_getElem h,List.map_append,List.sum_append]
 simp only [List.map_cons,List.map_nil,List.sum_cons,List.sum_nil,Nat.add_zero]
theorem sum_take_le {α:Type} (f:α→Nat) (l:List α) (k:Nat):((l.take k).map f).sum≤(l.map f).sum:=by
 have h:(l.map f).sum=((l.take k).map f).sum+((l.drop k).map f).sum:=by
  conv=>lhs;rw [← List.take_append_drop k l,List.map_append,List.sum_append]
 omega

/-- how much cells, rows, a table are: as the laws count it -/
def totC:List C→Nat
 | []=>0
 | x :: r=>1+x.s.size+totC r
def totR:List R→Nat
 | []=>0
 | x :: r=>1+totC x.cells+totR r
def totT (t:T):Nat:=t.cols.length+totR t.rows
/-- the texts of the first k cells together -/
def szTo (cs:List C) (k:Nat):Nat:=((cs.take k).map (fun x=>x.s.size)).sum
def rwTo (rs:List R) (k:Nat):Nat:=((rs.take k).map (fun x=>totC x.cells)).sum
end Go.Proofs.YtcbibdhlkdcmiafGreat
namespace Go.Proofs.YtcbibdhlkdcmiafGreat
open Go.RowKit

theorem sizeSet (w:World) (p:Addr) (v:Value):(w.setCell p v).heap.size=w.heap.size:=by simp [World.setCell]
theorem newestB (w:World) (q:Obj):(w.alloc q).heap[w.heap.size]?=some q:=by show (w.heap.push q)[w.heap.size]?=_;simp
theorem cellB {w:World} {g p:Nat} {arr:Array Value} {t:TypeId} (h:w.heap[g]?=some (.cells arr t)):w.cell? ⟨g,p,none⟩=arr[p]?:=Joins.cell_of_block h p
theorem someB {w:World} {g p:Nat} {arr:Array Value} {t:TypeId} (h:w.heap[g]?=some (.cells arr t)) (hp:p < arr.size):∃ v,w.cell? ⟨g,p,none⟩=some v:=⟨_,(cellB h).trans (Array.getElem?_eq_getElem hp)⟩
theorem freeB {w:World} {g p:Nat} {arr:Array Value} {t:TypeId} (h:w.heap[g]?=some (.cells arr t)):w.frozen? ⟨g,p,none⟩=false:=Joins.unfrozen_of_block h p
theorem setB {w:World} {g p:Nat} {arr:Array Value} {t:TypeId} (h:w.heap[g]?=some (.cells arr t)) (v:Value):(w.setCell ⟨g,p,none⟩ v).heap[g]?=some (.cells (arr.setIfInBounds p v) t):=Joins.block_setCell h v
/-- what is left of n behind m: -1, if that is less than nothing -/
def leftOf (n:Int) (m:Nat):Int:=if (m:Int)≤n then n - m else -1
theorem retI64 {a b:Int} (h:a=b):Ending.returned (.int .i64 a)=.returned (.int .i64 b):=by rw [h]
end Go.Proofs.YtcbibdhlkdcmiafGreat
namespace Go.Proofs.YtcbibdhlkdcmiafGreat
open Go.RowKit

theorem row_form {w:World} {base:Nat} {e:TypeId} {sz:Nat} {v:Value} {m:Nat} {xs:List Value} (h:w.ownsRow base e sz v m xs):∃ a cap,v=.slice a m cap∧m≤maxLen:=by
 rcases h.2 with ⟨rfl,rfl⟩ | ⟨g,cap,cur,rfl,_,_,h1,h2,_⟩
 ·exact ⟨none,0,rfl,by unfold maxLen;omega⟩
 ·exact ⟨_,cap,rfl,Nat.le_trans h1 h2⟩
/-- elements of so many cells, one behind the other -/
theorem flat_get {α:Type} (f:α→List Value) (sz:Nat) (hf:∀ x,(f x).length=sz) (l:List α) (i:Nat) (hi:i < l.length) (j:Nat) (hj:j < sz):(l.flatMap f)[i * sz+j]?=(f l[i])[j]?:=by
 induction l generalizing i with
 | nil=>simp at hi
 | cons a t ih =>
  rw [List.flatMap_cons]
  cases i with
  | zero=>rw [List.getElem?_append_left (by rw [hf];omega)];simp
  | succ i =>
   rw [List.getElem?_append_right (by rw [hf,Nat.succ_mul];omega),hf]
   have e:(i+1) * sz+j - sz=i * sz+j:=by rw [Nat.succ_mul];omega
   rw [e,ih i (by simpa using hi)]
   simp
theorem flat_len {α:Type} (f:α→List Value) (sz:Nat) (hf:∀ x,(f x).length=sz) (l:List α):(l.flatMap f).length=l.length * sz:=by
 induction l with
 | nil=>simp
 | cons a t ih=>rw [List.flatMap_cons,List.length_append,hf,ih,List.length_cons,Nat.succ_mul];omega
theorem row_cell {w:World} {base:Nat} {e:TypeId} {sz:Nat} {m:Nat} {xs:List Value} {g cap:Nat} (h:w.ownsRow base e sz (.slice (some ⟨g,0,none⟩) m cap) m xs) {k:Nat} {u:Value} (hk:xs[k]?=some u):w.cell? ⟨g,k,none⟩=some u:=by
 have hl:k < xs.length:=(List.getElem?_eq_some_iff.1 hk).1
 rcases h.2 with ⟨e,_⟩ | ⟨g',cap',cur,e,_,hc,_,_,_,ht⟩
 ·simp at e
 ·simp at e
  obtain ⟨rfl,rfl⟩:=e
  rw [cellB hc,← Array.getElem?_toList]
  rw [← ht,List.getElem?_take_of_lt (by rw [h.1] at hl;exact hl)] at hk
  exact hk
theorem news_at {w:World} {g:Nat} {arr:Array Value} {t:TypeId} (h:w.heap[g]?=some (.cells arr t)):∀ j u,arr.toList[j]?=some u→w.cell? ((⟨g,0,none⟩:Addr).add j)=some u:=fun j u hu=>by
 have e:(⟨g,0,none⟩:Addr).add j=⟨g,j,none⟩:=by simp [Addr.add];intro h;exact h.symm
 rw [e,cellB h,← Array.getElem?_toList]
 exact hu
end Go.Proofs.YtcbibdhlkdcmiafGreat
namespace Go.Proofs.YtcbibdhlkdcmiafGreat
open Go.RowKit

/-- All that was in memory is as it was, but for block r. -/
structure Bk (r:Nat) (w w':World):Prop where
 os:w'.os=w.os
 tape:w'.tape=w.tape
 output:w'.output=w.output
 size:w.heap.size≤w'.heap.size
 block:∀ k,k < w.heap.size→k ≠ r→w'.heap[k]?=w.heap[k]?
theorem Bk.refl (r:Nat) (w:World):Bk r w w:=⟨rfl,rfl,rfl,Nat.le_refl _,fun _ _ _=>rfl⟩
theorem Bk.trans {r:Nat} {a b c:World} (h:Bk r a b) (k:Bk r b c):Bk r a c :=
 ⟨k.os.trans h.os,k.tape.trans h.tape,k.output.trans h.output,Nat.le_trans h.size k.size,fun i hi hr=>(k.block i (Nat.lt_of_lt_of_le hi h.size) hr).trans (h.block i hi hr)⟩
theorem Bk.alloc {r:Nat} {a w:World} (h:Bk r a w) (o:Obj):Bk r a (w.alloc o) :=
 h.trans ⟨rfl,rfl,rfl,by simp,fun k hk _=>Below.heap_alloc _ _ _ hk⟩
theorem Bk.drewN {r:Nat} {a w:World} (h:Bk r a w) (n:Nat):Bk r a (w.drewN n):=⟨h.os,h.tape,h.output,h.size,h.block⟩
theorem Bk.drew {r:Nat} {a w:World} (h:Bk r a w):Bk r a w.drew:=⟨h.os,h.tape,h.output,h.size,h.block⟩
theorem Bk.set {r:Nat} {a w:World} (h:Bk r a w) {p:Addr} (hp:p.block=r∨a.heap.size≤p.block) (u:Value):Bk r a (w.setCell p u) :=
 ⟨h.os,h.tape,h.output,by simpa [World.setCell] using h.size,fun k hk hr=>(Below.heap_setCell _ _ _ _ (by omega)).trans (h.block k hk hr)⟩
theorem Bk.below {r:Nat} {w w':World} (h:Bk r w w') {n:Nat} (hn:n≤w.heap.size) (hr:n≤r):Below n w w':=⟨h.os,h.tape,h.output,h.size,fun k hk=>h.block k (by omega) (by omega)⟩
theorem Bk.of_below {r:Nat} {w w':World} (h:Below w.heap.size w w'):Bk r w w':=⟨h.os,h.tape,h.output,h.size,fun k hk _=>h.block k hk⟩
theorem Bk.cell {r:Nat} {w w':World} (h:Bk r w w') {p:Addr} (hp:p.block < w.heap.size) (hr:p.block ≠ r):w'.cell? p=w.cell? p:=World.cell?_of_block (w:=w) (h.block p.block hp hr)
theorem Bk.frozen {r:Nat} {w w':World} (h:Bk r w w') {p:Addr} (hp:p.block < w.heap.size) (hr:p.block ≠ r):w'.frozen? p=w.frozen? p:=World.frozen?_of_block (w:=w) (h.block p.block hp hr)
theorem Bk.cells {r:Nat} {w w':World} (h:Bk r w w'):(∀ b o,b < w.heap.size→b ≠ r→w'.cell? ⟨b,o,none⟩=w.cell? ⟨b,o,none⟩)∧(∀ b o,b < w.heap.size→b ≠ r→w'.frozen? ⟨b,o,none⟩=w.frozen? ⟨b,o,none⟩) :=
 ⟨fun b o h1 h2=>h.cell (p:=⟨b,o,none⟩) h1 h2,fun b o h1 h2=>h.frozen (p:=⟨b,o,none⟩) h1 h2⟩
end Go.Proofs.YtcbibdhlkdcmiafGreat
namespace Go.Proofs.YtcbibdhlkdcmiafGreat
open Go.RowKit

/-- A reader at block r: over a code of at most 2000 bytes; at most B numbers have been picked. -/
def Rd (w:World) (r B:Nat):Prop :=
 ∃ (a:Option Addr) (len cap p:Nat),p≤B∧len≤2000∧w.heap[r]?=some (.cells #[.slice a len cap,.int .i64 p] 105) ∧
  ∀ i,i < len→∃ (b off:Nat) (z:Int),a=some ⟨b,off,none⟩∧b < r∧w.cell? ⟨b,off+i,none⟩=some (.int .u8 z)∧0≤z∧z≤255

theorem Rd.lt {w:World} {r B:Nat} (h:Rd w r B):r < w.heap.size:=by
 obtain ⟨a,len,cap,p,_,_,hb,_⟩:=h
 exact (Array.getElem?_eq_some_iff.1 hb).1
theorem Rd.mono {w:World} {r B B':Nat} (h:Rd w r B) (hB:B≤B'):Rd w r B':=by
 obtain ⟨a,len,cap,p,h1,h⟩:=h
 exact ⟨a,len,cap,p,by omega,h⟩
/-- A reader stays one where its own block and all older ones stay. -/
theorem Rd.kept {w w':World} {r B:Nat} (h:Rd w r B) (hb:Below w.heap.size w w'):Rd w' r B:=by
 have hlt:=h.lt
 obtain ⟨a,len,cap,p,h1,h2,hk,hc⟩:=h
 refine ⟨a,len,cap,p,h1,h2,(hb.block r hlt).trans hk,fun i hi=>?_⟩
 obtain ⟨b,off,z,e,l,c,z0,z1⟩:=hc i hi
 exact ⟨b,off,z,e,l,(hb.cell (p:=⟨b,off+i,none⟩) (Nat.lt_trans l hlt)).trans c,z0,z1⟩
/-- .. where its own block and all ahead of it stay. -/
theorem Rd.keep {w w':World} {r B:Nat} (h:Rd w r B) (hk:∀ k,k≤r→w'.heap[k]?=w.heap[k]?):Rd w' r B:=by
 obtain ⟨a,len,cap,p,h1,h2,hb,hc⟩:=h
 refine ⟨a,len,cap,p,h1,h2,(hk r (Nat.le_refl _)).trans hb,fun i hi=>?_⟩
 obtain ⟨b,off,z,e,l,c,z0,z1⟩:=hc i hi
 exact ⟨b,off,z,e,l,(World.cell?_of_block (w:=w) (a:=⟨b,off+i,none⟩) (hk b (Nat.le_of_lt l))).trans c,z0,z1⟩
theorem Rd.alloc {w:World} {r B:Nat} (h:Rd w r B) (o:Obj):Rd (w.alloc o) r B:=h.kept (k_alloc (Below.refl _ _) _)
theorem Rd.set {w:World} {r B:Nat} (h:Rd w r B) {p:Addr} (hp:r < p.block) (u:Value):Rd (w.setCell p u) r B:=h.keep (fun _ hk=>Below.heap_setCell _ _ _ _ (by omega))
theorem Rd.drew {w:World} {r B:Nat} (h:Rd w r B):Rd w.drew r B:=h.kept (k_drew (Below.refl _ _))

/-- within 0 .. n - 1, where there is such a number -/
def InR (n k:Int):Prop:=1≤n→0≤k∧k < n

theorem i64_xor_nonneg (a b:Int) (h1:0≤a) (h2:a < 4611686018427387904) (h3:0≤b) (h4:b < 4611686018427387904):0≤bits .xor .i64 a b:=by
 obtain ⟨A,rfl⟩:=Int.eq_ofNat_of_zero_le h1
 obtain ⟨B,rfl⟩:=Int.eq_ofNat_of_zero_le h3
 have hx:A ^^^ B < 2 ^ 62:=Nat.xor_lt_two_pow (by omega) (by omega)
 have e:bits .xor .i64 (A:Int) (B:Int)=IntKind.i64.wrap ((BitVec.ofInt 64 (A:Int) ^^^ BitVec.ofInt 64 (B:Int)).toNat:Int):=rfl
 rw [e,BitVec.toNat_xor,ofInt_u64 A (by omega),ofInt_u64 B (by omega)]
 simp [IntKind.wrap,IntKind.bits,IntKind.signed]
 omega

theorem wrap64_in {x:Int} (h1:0≤x) (h2:x < 4611686018427387904):wrap64 x=x:=by unfold wrap64;omega
theorem pick_math (n z y:Int) (p len:Nat) (hn:1≤n) (hp:p≤1000000) (z0:0≤z) (z1:z≤255) (y0:0≤y) (y1:y≤255) :
  InR n ((bits BinOp.xor IntKind.i64 (wrap64 (z * 131+y * 1117+(p:Int) * 29+wrap64 (wrap64 ((p:Int) / (len:Int)) * 53)))
   (wrap64 ((wrap64 (z * 131+y * 1117+(p:Int) * 29+wrap64 (wrap64 ((p:Int) / (len:Int)) * 53))).tdiv 64))).tmod n):=by
 have q0:0≤(p:Int) / (len:Int):=Int.ediv_nonneg (by omega) (by omega)
 have q1:(p:Int) / (len:Int)≤p:=Int.ediv_le_self _ (by omega)
 generalize (p:Int) / (len:Int)=q at q0 q1 ⊢
 rw [wrap64_in q0 (by omega),wrap64_in (x:=q * 53) (by omega) (by omega),wrap64_in (x:=z * 131+y * 1117+(p:Int) * 29+q * 53) (by omega) (by omega)]
 have X0:0≤z * 131+y * 1117+(p:Int) * 29+q * 53:=by omega
 have X1:z * 131+y * 1117+(p:Int) * 29+q * 53 < 4611686018427387904:=by omega
 generalize z * 131+y * 1117+(p:Int) * 29+q * 53=X at X0 X1 ⊢
 rw [Int.tdiv_eq_ediv_of_nonneg X0,wrap64_in (x:=X / 64) (by omega) (by omega)]
 have hx:=i64_xor_nonneg X (X / 64) X0 X1 (by omega) (by omega)
 generalize bits BinOp.xor IntKind.i64 X (X / 64)=Y at hx ⊢
 intro _
 rw [Int.tmod_eq_emod_of_nonneg hx]
 exact ⟨Int.emod_nonneg _ (by omega),Int.emod_lt_of_pos _ (by omega)⟩

theorem rd_next {w:World} {r B:Nat} {a:Option Addr} {len cap p:Nat} (hp:p≤B) (hl:len≤2000) (hk:w.heap[r]?=some (.cells #[.slice a len cap,.int .i64 p] 105))
  (hc:∀ i,i < len→∃ (b off:Nat) (z:Int),a=some ⟨b,off,none⟩∧b < r∧w.cell? ⟨b,off+i,none⟩=some (.int .u8 z)∧0≤z∧z≤255) :
  Rd (w.setCell ⟨r,1,none⟩ (.int .i64 ((p:Int)+1))) r (B+1)∧Bk r w (w.setCell ⟨r,1,none⟩ (.int .i64 ((p:Int)+1))):=by
 have bk:Bk r w (w.setCell ⟨r,1,none⟩ (.int .i64 ((p:Int)+1))):=(Bk.refl r w).set (Or.inl rfl) _
 refine ⟨⟨a,len,cap,p+1,by omega,hl,?_,fun i hi=>?_⟩,bk⟩
 ·rw [Joins.block_setCell hk]
  simp
 ·obtain ⟨b,off,z,e,l,c,z0,z1⟩:=hc i hi
  exact ⟨b,off,z,e,l,(bk.cell (p:=⟨b,off+i,none⟩) (Nat.lt_trans l (Array.getElem?_eq_some_iff.1 hk).1) (Nat.ne_of_lt l)).trans c,z0,z1⟩
theorem Rd.draws {w:World} {r B:Nat} (h:Rd w r B) (n:Nat):Rd (w.drewN n) r B:=h.kept (k_drewN (Below.refl _ _) n)

set_option maxRecDepth 100000 in
set_option maxHeartbeats 1000000 in
theorem pick_any (r B:Nat) (n:Int) (w:World) (h:Rd w r B) (hB:B≤1000000) :
  Calls Tryz.prog 68 #[.pointer (some ⟨r,0,none⟩),.int .i64 n] w fun e w'=>∃ k:Int,e=.returned (.int .i64 k)∧InR n k∧Rd w' r (B+1)∧Bk r w w':=by
 have hlt:=h.lt
 obtain ⟨a,len,cap,p,hp,hl,hk,hc⟩:=h
 have c0:w.cell? ⟨r,0,none⟩=some (.slice a len cap):=by simp [World.cell?,hk]
 have c1:w.cell? ⟨r,1,none⟩=some (.int .i64 p):=by simp [World.cell?,hk]
 have f1:w.frozen? ⟨r,1,none⟩=false:=by simp [World.frozen?,hk]
 obtain ⟨N1,N2⟩:=rd_next hp hl hk hc
 have HN1:Hid (Rd (w.setCell ⟨r,1,none⟩ (.int .i64 ((p:Int)+1))) r (B+1)):=N1
 have HN2:Hid (Bk r w (w.setCell ⟨r,1,none⟩ (.int .i64 ((p:Int)+1)))):=N2
 clear N1 N2 hk
 by_cases hn:n < 1
 ·as_aux_lemma =>
   clear hc
   go_enter Tryz.func68,Tryz.ntmps68
   go_wp2
   go_ret
   exact ⟨0,rfl,fun h=>absurd h (by omega),HN1.out,HN2.out⟩
 by_cases hz:len=0
 ·as_aux_lemma =>
   have hz':((len:Int) == 0)=true:=beq_iff_eq.2 (by omega)
   clear hc hz
   go_enter Tryz.func68,Tryz.ntmps68
   go_wp2
   go_ret
   exact ⟨0,rfl,fun h=>by omega,HN1.out,HN2.out⟩
 have hz':((len:Int) == 0)=false:=beq_eq_false_iff_ne.2 (by omega)
 have hn1:1≤n:=by omega
 by_cases hpl:p < len
 ·as_aux_lemma =>
   obtain ⟨b,off,z,rfl,hbr0,hcz,hz0,hz1⟩:=hc p hpl
   have hbr:b ≠ r:=by omega
   have hbl:b < w.heap.size:=by omega
   have c2:∀ v,(w.setCell ⟨r,1,none⟩ v).cell? ⟨b,off+p,none⟩=some (.int .u8 z):=fun v=>((Bk.refl r w).set (p:=⟨r,1,none⟩) (Or.inl rfl) v).cell (p:=⟨b,off+p,none⟩) hbl hbr |>.trans hcz
   clear hc hcz hz hbl
   go_enter Tryz.func68,Tryz.ntmps68
   go_wp2
   go_ret
   exact ⟨_,rfl,fun _=>⟨Int.emod_nonneg _ (by omega),Int.emod_lt_of_pos _ (by omega)⟩,HN1.out,HN2.out⟩
 ·as_aux_lemma =>
   have hm1:p % len < len:=Nat.mod_lt _ (by omega)
   have hm2:(p * 7+3) % len < len:=Nat.mod_lt _ (by omega)
   obtain ⟨b,off,z,rfl,hbr0,hcz,hz0,hz1⟩:=hc _ hm1
   have hbr:b ≠ r:=by omega
   have hbl:b < w.heap.size:=by omega
   obtain ⟨b',off',y,e',hbr',hcy,hy0,hy1⟩:=hc _ hm2
   simp only [Option.some.injEq,Addr.mk.injEq] at e'
   obtain ⟨rfl,rfl,_⟩:=e'
   have c2:∀ v,(w.setCell ⟨r,1,none⟩ v).cell? ⟨b,off+p % len,none⟩=some (.int .u8 z):=fun v=>((Bk.refl r w).set (p:=⟨r,1,none⟩) (Or.inl rfl) v).cell (p:=⟨b,off+p % len,none⟩) hbl hbr |>.trans hcz
   have c3:∀ v,(w.setCell ⟨r,1,none⟩ v).cell? ⟨b,off+(p * 7+3) % len,none⟩=some (.int .u8 y):=fun v=>((Bk.refl r w).set (p:=⟨r,1,none⟩) (Or.inl rfl) v).cell (p:=⟨b,off+(p * 7+3) % len,none⟩) hbl hbr |>.trans hcy
   have i1:0≤((p:Int) * 7+3) % (len:Int):=Int.emod_nonneg _ (by omega)
   have i2:((p:Int) * 7+3) % (len:Int) < (len:Int):=Int.emod_lt_of_pos _ (by omega)
   have i3:(((p:Int) * 7+3) % (len:Int)).toNat=(p * 7+3) % len:=by
    have:((p:Int) * 7+3) % (len:Int)=(((p * 7+3) % len:Nat):Int):=by simp
    rw [this,Int.toNat_natCast]
   clear hc hcz hcy hz hbl hbr'
   go_enter Tryz.func68,Tryz.ntmps68
   go_wp2
   refine wp_region_quiet_lit (by kernel_rfl) (by kernel_rfl) ?_
   repeat (go_big_quiet_step (fail))
   refine wpQuiet_nil ?_
   intro _ hw'
   obtain ⟨nq,hw''⟩:=hw'
   subst hw''
   go_wp2
   go_ret
   refine ⟨_,rfl,?_,HN1.out.draws _,HN2.out.drewN _⟩
   exact pick_math n z y p len hn1 (by omega) hz0 hz1 hy0 hy1

/-- What the walk is told of the code that came in: bytes in memory, or nil. -/
def IsCode (w:World) (a:Option Addr) (len cap:Nat):Prop :=
 len≤cap∧cap≤maxLen∧∀ i,i < len→∃ (b off:Nat) (z:Int),a=some ⟨b,off,none⟩∧b < w.heap.size∧w.cell? ⟨b,off+i,none⟩=some (.int .u8 z)∧0≤z∧z≤255

theorem isCode_nil (w:World):IsCode w none 0 0:=⟨Nat.le_refl _,Nat.zero_le _,fun _ hi=>absurd hi (Nat.not_lt_zero _)⟩
theorem block_of_cell {w:World} {b o:Nat} {v:Value} (h:w.cell? ⟨b,o,none⟩=some v):b < w.heap.size:=by
 rcases Nat.lt_or_ge b w.heap.size with h1 | h1
 ·exact h1
 ·simp [World.cell?,Array.getElem?_eq_none h1] at h
theorem getD_mem {zs:List Int} {i:Nat} (h:i < zs.length):zs.getD i 0 ∈ zs:=by
 have e:zs.getD i 0=zs[i]:=by simp [List.getD,h]
 rw [e];exact List.getElem_mem _
theorem isCode_of {w:World} {x:Addr} {len cap:Nat} {zs:List Int} (hl:len≤cap) (hm:cap≤maxLen) (hz:zs.length=cap) (hcell:∀ i,i < zs.length→w.cell? (x.add i)=some (.int .u8 (zs.getD i 0)))
  (hw:∀ n ∈ zs,(Lit.int .u8 n).wf=true):IsCode w (some x) len cap:=by
 refine ⟨hl,hm,fun i hi=>?_⟩
 obtain ⟨b,off,rfl,hc⟩:=ints_at hcell (by omega)
 have hci:=hc i (by omega)
 have hb:=bounds_u8 (hw _ (getD_mem (zs:=zs) (i:=i) (by omega)))
 exact ⟨b,off,_,rfl,block_of_cell hci,hci,hb.1,hb.2⟩

theorem rd_open {w:World} {a:Option Addr} {len cap:Nat} (L:Nat) (hL:L≤len) (h2:L≤2000)
  (hc:∀ i,i < len→∃ (b off:Nat) (z:Int),a=some ⟨b,off,none⟩∧b < w.heap.size∧w.cell? ⟨b,off+i,none⟩=some (.int .u8 z)∧0≤z∧z≤255) :
  Rd (w.alloc (.cells #[.slice a L cap,.int .i64 0] 105)) w.heap.size 0:=by
 refine ⟨a,L,cap,0,Nat.le_refl _,h2,?_,fun i hi=>?_⟩
 ·show (w.heap.push _)[w.heap.size]?=_
  simp
 ·obtain ⟨b,off,z,e,l,c,z0,z1⟩:=hc i (by omega)
  refine ⟨b,off,z,e,l,?_,z0,z1⟩
  exact ((k_alloc (Below.refl w.heap.size w) _).cell (p:=⟨b,off+i,none⟩) l).trans c

set_option maxRecDepth 100000 in
set_option maxHeartbeats 400000 in
theorem open_any (a:Option Addr) (len cap:Nat) (w:World) (h:IsCode w a len cap) :
  Calls Tryz.prog 34 #[.slice a len cap] w fun e w'=>e=.returned (.pointer (some ⟨w.heap.size,0,none⟩))∧Rd w' w.heap.size 0∧Below w.heap.size w w':=by
 obtain ⟨h1,h2,hc⟩:=h
 unfold maxLen at h2
 by_cases hl:(2000:Int) < (len:Int)
 ·go_enter Tryz.func34,Tryz.ntmps34
  go_wp2
  go_ret
  exact ⟨rfl,rd_open 2000 (by omega) (by omega) hc,k_alloc (Below.refl _ _) _⟩
 ·go_enter Tryz.func34,Tryz.ntmps34
  go_wp2
  go_ret
  exact ⟨rfl,rd_open len (by omega) (by omega) hc,k_alloc (Below.refl _ _) _⟩
end Go.Proofs.YtcbibdhlkdcmiafGreat
namespace Go.Proofs.YtcbibdhlkdcmiafGreat
open Go.RowKit

def upd (L:Nat→Bool) (i:Nat):Nat→Bool:=fun j=>if j=i then true else L j
theorem upd_ne {L:Nat→Bool} {i j:Nat} (h:(j == i)=false):upd L i j=L j:=by
 unfold upd
 rw [if_neg (fun e=>by rw [e] at h;simp at h)]
theorem un {L:Nat→Bool} {i j:Nat} {b:Bool} (h:upd L i j=b) (e:(j == i)=false:=by rfl):L j=b:=by rwa [upd_ne e] at h
theorem upd_self {L:Nat→Bool} {i:Nat}:upd L i i=true:=by simp [upd]
/-- each operation hangs on operations ahead of it alone -/
def aheadB (ops:Array Oper):Bool:=(List.range ops.size).all fun i=>((ops[i]?).map fun o=>o.after.all fun e=>!Region.binds .any e || decide (e.on < i)).getD true
theorem ahead_all {ops:Array Oper} (h:aheadB ops=true) {listed:Array Bool} (hs:listed.size=ops.size) (hr:Region.ready .any ops listed=[]):∀ i,i < ops.size→listed.getD i false=true:=by
 intro i
 induction i using Nat.strongRecOn with
 | ind i ih =>
  intro hi
  cases hl:listed.getD i false with
  | true=>rfl
  | false =>
   exfalso
   have ho:ops[i]?=some ops[i]:=Array.getElem?_eq_getElem hi
   have h1:=List.all_eq_true.1 h i (List.mem_range.2 hi)
   rw [ho] at h1
   simp only [Option.map_some,Option.getD_some] at h1
   have hm:i ∈ Region.ready .any ops listed:=by
    unfold Region.ready
    rw [List.mem_filter]
    refine ⟨List.mem_range.2 hi,?_⟩
    have h2:listed.getD i true=false:=by
     rw [Array.getD_eq_getD_getElem?,Array.getElem?_eq_getElem (by omega)] at hl ⊢
     exact hl
    rw [h2,ho]
    simp only [Bool.not_false,Bool.true_and,Option.map_some,Option.getD_some]
    rw [Array.all_eq_true_iff_forall_mem]
    intro e he
    have h3:=Array.all_eq_true_iff_forall_mem.1 h1 e he
    cases hbn:Region.binds .any e with
    | false=>simp
    | true =>
     rw [hbn] at h3
     have h4:e.on < i:=by simpa using h3
     rw [ih e.on h4 (by omega)]
     simp
   rw [hr] at hm
   cases hm
theorem listed_set {listed:Array Bool} {i:Nat} (hi:i < listed.size):(fun j=>(listed.setIfInBounds i true).getD j false)=upd (fun j=>listed.getD j false) i:=by
 funext j
 unfold upd
 rw [Array.getD_eq_getD_getElem?]
 by_cases h:j=i
 ·subst h;simp [hi]
 ·rw [if_neg h,Array.getElem?_setIfInBounds_ne (Ne.symm h)]
  exact (Array.getD_eq_getD_getElem? ..).symm
theorem count_set {l:List Bool} {i:Nat} (h:l[i]?=some false):(l.set i true).count false+1=l.count false:=by
 induction l generalizing i with
 | nil=>simp at h
 | cons a t ih =>
  cases i with
  | zero=>simp at h;subst h;simp
  | succ i =>
   simp at h
   have:=ih h
   rw [List.set_cons_succ,List.count_cons,List.count_cons]
   omega

section
variable {P:Program} {ops:Array Oper} {Q:Exit→Act→World→Prop} (J:(Nat→Bool)→Act→World→Prop)
theorem wpAny_inv (hord:aheadB ops=true)
  (hs:∀ (L:Nat→Bool) (a:Act) (w:World) (i:Nat) (o:Oper),J L a w→ops[i]?=some o→L i=false→(∀ e ∈ o.after,Region.binds .any e=true→L e.on=true) →
   ∀ K:Act→World→Prop,(∀ a' w',J (upd L i) a' w'→K a' w')→if Region.wanted o (yielded ops a.tmps)=true then o.wp P a w K Q else K (a.put o.dst undef) w)
  (hd:∀ (L:Nat→Bool) (a:Act) (w:World),J L a w→(∀ i,i < ops.size→L i=true)→Q .normal a w) :
  ∀ (fuel:Nat) (listed:Array Bool) (a:Act) (w:World),listed.size=ops.size→listed.toList.count false≤fuel→J (fun j=>listed.getD j false) a w→wpAny P .any ops Q fuel listed a w:=by
 intro fuel
 induction fuel with
 | zero =>
  intro listed a w hsz hc hJ
  have hall:∀ i,i < ops.size→listed.getD i false=true:=by
   intro i hi
   have h0:listed.toList.count false=0:=by omega
   have hi':i < listed.size:=by omega
   have:=List.count_eq_zero.1 h0
   have hm:listed[i] ∈ listed.toList:=by simp
   rw [Array.getD_eq_getD_getElem?,Array.getElem?_eq_getElem hi',Option.getD_some]
   cases hv:listed[i] with
   | true=>rfl
   | false=>rw [hv] at hm;exact absurd hm this
  refine ⟨?_,hd _ _ _ hJ hall⟩
  unfold Region.ready
  rw [List.filter_eq_nil_iff]
  intro i hi
  have hi2:=List.mem_range.1 hi
  have:=hall i hi2
  have h3:listed.getD i true=true:=by
   rw [Array.getD_eq_getD_getElem?,Array.getElem?_eq_getElem (by omega)] at this ⊢
   exact this
  rw [h3];simp
 | succ fuel ih =>
  intro listed a w hsz hc hJ
  refine ⟨fun hr=>hd _ _ _ hJ (ahead_all hord hsz hr),fun i hi=>?_⟩
  unfold Region.ready at hi
  rw [List.mem_filter] at hi
  obtain ⟨h1,h2⟩:=hi
  have hlt:=List.mem_range.1 h1
  have ho:ops[i]?=some ops[i]:=Array.getElem?_eq_getElem hlt
  rw [ho] at h2
  simp only [Option.map_some,Option.getD_some,Bool.and_eq_true] at h2
  obtain ⟨h3,h4⟩:=h2
  have hil:i < listed.size:=by omega
  have hv:listed[i]=false:=by
   rw [Array.getD_eq_getD_getElem?,Array.getElem?_eq_getElem hil] at h3
   simpa using h3
  have hfi:listed.getD i false=false:=by rw [Array.getD_eq_getD_getElem?,Array.getElem?_eq_getElem hil,hv];rfl
  have hstep:=hs _ a w i ops[i] hJ ho hfi (fun e he hb=>by
   have:=Array.all_eq_true_iff_forall_mem.1 h4 e he
   rw [hb] at this
   simpa using this) (wpAny P .any ops Q fuel (listed.setIfInBounds i true)) (fun a' w' hJ'=>ih _ a' w' (by simpa using hsz) (by
    have:=count_set (l:=listed.toList) (i:=i) (by rw [Array.getElem?_toList,Array.getElem?_eq_getElem hil,hv])
    rw [Array.toList_setIfInBounds]
    omega) (by rw [listed_set hil];exact hJ'))
  unfold wpOp
  rw [ho]
  dsimp only
  split
  ·rename_i hw;rw [if_pos hw] at hstep;exact .inl hstep
  ·rename_i hw;rw [if_neg hw] at hstep;exact hstep
theorem wp_region_inv {id:Nat} {a:Act} {w:World} (hm:P.follows .mixedOrders=true) (hord:aheadB ops=true)
  (hs:∀ (L:Nat→Bool) (a:Act) (w:World) (i:Nat) (o:Oper),J L a w→ops[i]?=some o→L i=false→(∀ e ∈ o.after,Region.binds .any e=true→L e.on=true) →
   ∀ K:Act→World→Prop,(∀ a' w',J (upd L i) a' w'→K a' w')→if Region.wanted o (yielded ops a.tmps)=true then o.wp P a w K Q else K (a.put o.dst undef) w)
  (hd:∀ (L:Nat→Bool) (a:Act) (w:World),J L a w→(∀ i,i < ops.size→L i=true)→Q .normal a w)
  (h0:J (fun _=>false) a w.drew):(Code.region id ops true).wp P Q a w:=by
 refine wp_region_any hm (wpAny_inv J hord hs hd _ _ _ _ (by simp) (by simp) ?_)
 have e:(fun j=>(Array.replicate ops.size false).getD j false)=fun _=>false:=by
  funext j
  rw [Array.getD_eq_getD_getElem?]
  by_cases h:j < ops.size <;> simp [h]
 rw [e]
 exact h0
end

/-- a block of the call's own -/
def Hp (n0:Nat) (w:World) (g:Nat) (o:Obj):Prop:=n0≤g∧w.heap[g]?=some o
theorem Hp.lt {n0 g:Nat} {w:World} {o:Obj} (h:Hp n0 w g o):g < w.heap.size:=(Array.getElem?_eq_some_iff.1 h.2).1
theorem Hp.bk {n0 g r:Nat} {w w':World} {o:Obj} (h:Hp n0 w g o) (hr:r < n0) (k:Bk r w w'):Hp n0 w' g o:=⟨h.1,(k.block g h.lt (by have:=h.1;omega)).trans h.2⟩
theorem Hp.alloc {n0 g:Nat} {w:World} {o:Obj} (h:Hp n0 w g o) (q:Obj):Hp n0 (w.alloc q) g o:=⟨h.1,(Below.heap_alloc _ _ _ h.lt).trans h.2⟩
theorem Hp.new {n0:Nat} {w:World} (h:n0≤w.heap.size) (q:Obj):Hp n0 (w.alloc q) w.heap.size q:=⟨h,by show (w.heap.push q)[w.heap.size]?=_;simp⟩
/-- a number within bounds -/
def PI (lo hi:Int) (u:Value):Prop:=∃ k:Int,u=.int .i64 k∧lo≤k∧k≤hi
/-- a short text -/
def PS (n:Nat) (u:Value):Prop:=∃ s:ByteArray,u=.string s∧s.size≤n
/-- a list of numbers that has been written out -/
def PL (n0:Nat) (w:World) (n:Nat) (arr:Array Value) (u:Value):Prop:=∃ g,u=.slice (some ⟨g,0,none⟩) n n∧Hp n0 w g (.cells arr 3)
/-- a place in such a list -/
def PA (n0:Nat) (w:World) (lo hi:Int) (u:Value):Prop:=∃ g k arr,u=.pointer (some ⟨g,k,none⟩)∧Hp n0 w g (.cells arr 3)∧∃ v:Int,arr[k]?=some (.int .i64 v)∧lo≤v∧v≤hi
theorem PL.bk {n0 n r:Nat} {w w':World} {arr:Array Value} {u:Value} (h:PL n0 w n arr u) (hr:r < n0) (k:Bk r w w'):PL n0 w' n arr u:=by
 obtain ⟨g,e,hg⟩:=h;exact ⟨g,e,hg.bk hr k⟩
theorem PA.bk {n0 r:Nat} {w w':World} {lo hi:Int} {u:Value} (h:PA n0 w lo hi u) (hr:r < n0) (k:Bk r w w'):PA n0 w' lo hi u:=by
 obtain ⟨g,k',arr,e,hg,hv⟩:=h;exact ⟨g,k',arr,e,hg.bk hr k,hv⟩
theorem bk_alloc (r:Nat) (w:World) (o:Obj):Bk r w (w.alloc o):=(Bk.refl r w).alloc o
end Go.Proofs.YtcbibdhlkdcmiafGreat
namespace Go.Proofs.YtcbibdhlkdcmiafGreat
open Go.RowKit

/-- whether operation j hangs on operation i -/
def edgeB (ops:Array Oper) (j i:Nat):Bool:=((ops[j]?).map fun o=>o.after.toList.any fun e=>Region.binds .any e && e.on == i).getD false
def Closed (ops:Array Oper) (L:Nat→Bool):Prop:=∀ j i,edgeB ops j i=true→L i=false→L j=false
theorem Closed.next {ops:Array Oper} {L:Nat→Bool} (h:Closed ops L) {k:Nat} {o:Oper} (ho:ops[k]?=some o) (ha:∀ e ∈ o.after,Region.binds .any e=true→L e.on=true):Closed ops (upd L k):=by
 intro j i he hi
 have hik:i ≠ k:=fun e=>by subst e;rw [upd_self] at hi;cases hi
 have hi':L i=false:=by simpa [upd,hik] using hi
 have hj:=h j i he hi'
 have hjk:j ≠ k:=by
  intro e
  subst e
  unfold edgeB at he
  rw [ho] at he
  simp only [Option.map_some,Option.getD_some,List.any_eq_true,Bool.and_eq_true,beq_iff_eq] at he
  obtain ⟨e,he1,he2,he3⟩:=he
  have:=ha e (by simpa using he1) he2
  rw [he3,hi'] at this
  cases this
 simpa [upd,hjk] using hj
theorem wp_region_inv2 {P:Program} {ops:Array Oper} {Q:Exit→Act→World→Prop} (J:(Nat→Bool)→Act→World→Prop) {id:Nat} {a:Act} {w:World} (hm:P.follows .mixedOrders=true) (hord:aheadB ops=true)
  (hs:∀ (L:Nat→Bool) (a:Act) (w:World) (i:Nat) (o:Oper),J L a w→Closed ops L→ops[i]?=some o→L i=false→(∀ e ∈ o.after,Region.binds .any e=true→L e.on=true) →
   ∀ K:Act→World→Prop,(∀ a' w',J (upd L i) a' w'→K a' w')→if Region.wanted o (yielded ops a.tmps)=true then o.wp P a w K Q else K (a.put o.dst undef) w)
  (hd:∀ (L:Nat→Bool) (a:Act) (w:World),J L a w→(∀ i,i < ops.size→L i=true)→Q .normal a w)
  (h0:J (fun _=>false) a w.drew):(Code.region id ops true).wp P Q a w :=
 wp_region_inv (fun L a w=>J L a w∧Closed ops L) hm hord
  (fun L a w i o hJ ho hi ha K hK=>hs L a w i o hJ.1 hJ.2 ho hi ha K (fun a' w' hJ'=>hK a' w' ⟨hJ',hJ.2.next ho ha⟩))
  (fun L a w hJ hall=>hd L a w hJ.1 hall) ⟨h0,fun _ _ _ _=>rfl⟩
end Go.Proofs.YtcbibdhlkdcmiafGreat
