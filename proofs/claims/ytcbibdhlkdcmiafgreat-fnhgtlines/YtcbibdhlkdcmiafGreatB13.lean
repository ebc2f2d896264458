/-
  PROVED HERE: what it is that a call owns the cells, the columns and the rows of a table: it stays where other blocks are turned; such a table lies in memory. Also: small facts for regions that draw their order and append to a row of the call's own: what a slice or a pointer into a new block is; what stays of a row, a block, all else. Also: numbers between two others, as a Bool. Also: what the program's within and the model's l1In answer at every argument: the Bool 'inB'; nothing that was in memory is turned. Also: what a grid is in memory, for the other texts of this claim: its cells, each in its place; it stays where what was in memory stays; the first cell of a kind. Also: small facts on grids: whether a cell fits, whether cells meet, whether a grid is ok; cells meet just if they have a slot in common. Also: how a drawn table's cells are put at their places, row by row, each at the first column at which it is free: each finds it ahead of the 85th, since no more than twelve cells have a row in common with it and each shuts seven columns at most. Also: a region that draws its order, whose own operations only read and whose callees turn nothing that was in memory, may be walked once, in its text's order. Also: what the model's l3Meets and l3Free answer; nothing that was in memory is turned. Also: what a border that is ok is, as a Bool. Also: what a cell that is ok is, as a Bool.
-/
import Derived.Test.YtcbibdhlkdcmiafGreatB12
import Derived.Test.YtcbibdhlkdcmiafGreatB6
import Derived.Test.YtcbibdhlkdcmiafGreatB1
import Derived.Test.YtcbibdhlkdcmiafGreatB2
import Derived.Test.YtcbibdhlkdcmiafGreatRows
import Derived.WalkKit
import Derived.ProofKit
import Derived.WalkLawsBesides
import Derived.WalkSpells
import Derived.Below
import Derived.Deep.QuietTactic
import Derived.BigQuiet
namespace Go.Proofs.YtcbibdhlkdcmiafGreat
open Go.RowKit

/-- a cell's eleven cells -/
def cellVs (x:C):List Value:=[.string x.s,.int .i64 x.c,.int .i64 x.r,.int .i64 x.a1,.int .i64 x.b1,.int .i64 x.a2,.int .i64 x.b2,.int .i64 x.a3,.int .i64 x.b3,.int .i64 x.a4,.int .i64 x.b4]
def colVs (p:Int × Int):List Value:=[.int .i64 p.1,.int .i64 p.2]
def rowVs (p:Value × R):List Value:=[p.1,.bool p.2.whole]
def OwnC (w:World) (base:Nat) (u:Value) (cs:List C):Prop:=w.ownsRow base 74 11 u cs.length (cs.flatMap cellVs)
def OwnCol (w:World) (base:Nat) (v:Value) (ps:List (Int × Int)):Prop:=w.ownsRow base 36 2 v ps.length (ps.flatMap colVs)
/-- rows, each with its slice of cells -/
structure OwnR (w:World) (base:Nat) (v:Value) (ur:List (Value × R)):Prop where
 own:w.ownsRow base 69 2 v ur.length (ur.flatMap rowVs)
 cells:∀ p ∈ ur,OwnC w base p.1 p.2.cells
 apart:ur.Pairwise fun p q=>p.1.ownBlock=none∨p.1.ownBlock ≠ q.1.ownBlock

/-- what stays: all blocks from n on but these two -/
structure Off (n:Nat) (b1 b2:Option Nat) (w w':World):Prop where
 size:w.heap.size≤w'.heap.size
 block:∀ k,n≤k→k < w.heap.size→some k ≠ b1→some k ≠ b2→w'.heap[k]?=w.heap[k]?
theorem Off.bk {n r:Nat} {b1 b2:Option Nat} {w w':World} (h:Bk r w w') (hr:r < n):Off n b1 b2 w w':=⟨h.size,fun k hk hl _ _=>h.block k hl (by omega)⟩
theorem Off.grown {n:Nat} {b1 b2:Option Nat} {w w':World} (h:w.grownBy w' b2):Off n b1 b2 w w':=⟨h.size,fun k _ hl _ h2=>h.block k hl h2⟩
theorem Off.set {n g:Nat} {b2:Option Nat} (w:World) (p:Addr) (hp:p.block=g) (v:Value):Off n (some g) b2 w (w.setCell p v):=⟨by simp [World.setCell],fun k _ _ h1 _=>Below.heap_setCell _ _ _ _ (fun e=>h1 (by rw [e,hp]))⟩

theorem row_off {w w':World} {base n:Nat} {e:TypeId} {sz:Nat} {v:Value} {m:Nat} {xs:List Value} {b1 b2:Option Nat} (h:w.ownsRow base e sz v m xs) (k:Off n b1 b2 w w') (hn:n≤base) (h1:v.ownBlock=none∨v.ownBlock ≠ b1) (h2:v.ownBlock=none∨v.ownBlock ≠ b2):w'.ownsRow base e sz v m xs :=
 ⟨h.1,h.2.elim Or.inl (fun ⟨g,cap,cur,hv,hg,hc,q⟩=>Or.inr ⟨g,cap,cur,hv,hg,(k.block g (by omega) (Array.getElem?_eq_some_iff.1 hc).1
  (fun e=>by subst hv;rcases h1 with h1 | h1 <;> simp [Value.ownBlock] at h1;exact h1 e)
  (fun e=>by subst hv;rcases h2 with h2 | h2 <;> simp [Value.ownBlock] at h2;exact h2 e)).trans hc,q⟩)⟩
/-- a block's kind tells blocks apart -/
theorem row_ne {w:World} {base base':Nat} {e e':TypeId} {sz sz':Nat} {v v':Value} {m m':Nat} {xs xs':List Value} (h:w.ownsRow base e sz v m xs) (h':w.ownsRow base' e' sz' v' m' xs') (he:e ≠ e'):v.ownBlock=none∨v.ownBlock ≠ v'.ownBlock:=by
 rcases h.2 with ⟨rfl,_⟩ | ⟨g,cap,cur,rfl,_,hc,_⟩
 ·exact .inl rfl
 ·refine .inr (fun e1=>?_)
  rcases h'.2 with ⟨rfl,_⟩ | ⟨g',cap',cur',rfl,_,hc',_⟩
  ·simp [Value.ownBlock] at e1
  ·simp [Value.ownBlock] at e1
   subst e1
   rw [hc] at hc'
   simp at hc'
   exact he hc'.2
theorem row_ne_block {w:World} {base:Nat} {e e':TypeId} {sz:Nat} {v:Value} {m:Nat} {xs:List Value} {g:Nat} {cur:Array Value} (h:w.ownsRow base e sz v m xs) (h':w.heap[g]?=some (.cells cur e')) (he:e ≠ e'):v.ownBlock=none∨v.ownBlock ≠ some g:=by
 rcases h.2 with ⟨rfl,_⟩ | ⟨g',cap,cur',rfl,_,hc,_⟩
 ·exact .inl rfl
 ·refine .inr (fun e1=>?_)
  simp [Value.ownBlock] at e1
  subst e1
  rw [hc] at h'
  simp at h'
  exact he h'.2
theorem row_lt {w:World} {base:Nat} {e:TypeId} {sz:Nat} {v:Value} {m:Nat} {xs:List Value} (h:w.ownsRow base e sz v m xs) {b:Nat} (hb:v.ownBlock=some b):base≤b∧b < w.heap.size:=by
 rcases h.2 with ⟨rfl,_⟩ | ⟨g,cap,cur,rfl,hg,hc,_⟩
 ·simp [Value.ownBlock] at hb
 ·simp [Value.ownBlock] at hb
  subst hb
  exact ⟨hg,(Array.getElem?_eq_some_iff.1 hc).1⟩
theorem row_base {w:World} {base base':Nat} {e:TypeId} {sz:Nat} {v:Value} {m:Nat} {xs:List Value} (h:w.ownsRow base e sz v m xs) (hb:base'≤base):w.ownsRow base' e sz v m xs :=
 ⟨h.1,h.2.elim Or.inl (fun ⟨g,cap,cur,hv,hg,q⟩=>Or.inr ⟨g,cap,cur,hv,by omega,q⟩)⟩
theorem OwnR.off {w w':World} {base n:Nat} {v:Value} {ur:List (Value × R)} {b1 b2:Option Nat} (h:OwnR w base v ur) (k:Off n b1 b2 w w') (hn:n≤base) (h1:v.ownBlock=none∨v.ownBlock ≠ b1) (h2:v.ownBlock=none∨v.ownBlock ≠ b2)
  (hc:∀ p ∈ ur,(p.1.ownBlock=none∨p.1.ownBlock ≠ b1)∧(p.1.ownBlock=none∨p.1.ownBlock ≠ b2)):OwnR w' base v ur :=
 ⟨row_off h.own k hn h1 h2,fun p hp=>row_off (h.cells p hp) k hn (hc p hp).1 (hc p hp).2,h.apart⟩
/-- what is not among two blocks -/
def OffV (v:Value) (b1 b2:Option Nat):Prop:=(v.ownBlock=none∨v.ownBlock ≠ b1)∧(v.ownBlock=none∨v.ownBlock ≠ b2)

theorem getD_get {α:Type} {l:List α} {i:Nat} (d:α) (h:i < l.length):l.getD i d=l[i]:=by simp [List.getD,h]
theorem OwnC.at {w:World} {base:Nat} {u:Value} {cs:List C} (h:OwnC w base u cs) (hs:∀ x ∈ cs,x.s.size≤61):CellsAt w base u cs:=by
 rcases h.2 with ⟨rfl,hn⟩ | ⟨g,cap,cur,rfl,hg,hc,h1,h2,_⟩
 ·exact ⟨none,0,by rw [hn],by omega,by unfold maxLen;omega,fun i hi=>by omega⟩
 ·refine ⟨_,cap,rfl,h1,h2,fun i hi=>⟨g,0,rfl,(Array.getElem?_eq_some_iff.1 hc).1,hg,?_,?_⟩⟩
  ·have hx:∀ j,j < 11→w.cell? ⟨g,i * 11+j,none⟩=(cellVs cs[i])[j]?:=fun j hj=>by
    have e:=flat_get cellVs 11 (fun _=>rfl) cs i hi j hj
    rw [row_cell h (u:=(cellVs cs[i])[j]'(by show j < 11;exact hj)) (by rw [e];simp)]
    simp
   rw [getD_get dC hi,Nat.zero_add]
   exact ⟨hx 0 (by omega),hx 1 (by omega),hx 2 (by omega),hx 3 (by omega),hx 4 (by omega),hx 5 (by omega),hx 6 (by omega),hx 7 (by omega),hx 8 (by omega),hx 9 (by omega),hx 10 (by omega)⟩
  ·rw [getD_get dC hi]
   have:=hs _ (List.getElem_mem hi)
   unfold maxLen
   omega
theorem OwnCol.at {w:World} {base:Nat} {u:Value} {ps:List (Int × Int)} (h:OwnCol w base u ps):ColsAt w base u ps:=by
 rcases h.2 with ⟨rfl,hn⟩ | ⟨g,cap,cur,rfl,hg,hc,h1,h2,_⟩
 ·exact ⟨none,0,by rw [hn],by omega,by unfold maxLen;omega,fun i hi=>by omega⟩
 ·refine ⟨_,cap,rfl,h1,h2,fun i hi=>⟨g,0,rfl,(Array.getElem?_eq_some_iff.1 hc).1,hg,?_⟩⟩
  have hx:∀ j,j < 2→w.cell? ⟨g,i * 2+j,none⟩=(colVs ps[i])[j]?:=fun j hj=>by
   have e:=flat_get colVs 2 (fun _=>rfl) ps i hi j hj
   rw [row_cell h (u:=(colVs ps[i])[j]'(by show j < 2;exact hj)) (by rw [e];simp)]
   simp
  dsimp only
  rw [getD_get (0,0) hi,Nat.zero_add]
  exact ⟨hx 0 (by omega),hx 1 (by omega)⟩
theorem OwnR.at {w:World} {base:Nat} {v:Value} {ur:List (Value × R)} (h:OwnR w base v ur) (hs:∀ p ∈ ur,∀ x ∈ p.2.cells,x.s.size≤61):RowsAt w base v (ur.map (·.2)):=by
 have hl:(ur.map (·.2)).length=ur.length:=by simp
 rcases h.own.2 with ⟨rfl,hn⟩ | ⟨g,cap,cur,rfl,hg,hc,h1,h2,_⟩
 ·exact ⟨none,0,by rw [hl,hn],by rw [hl];omega,by unfold maxLen;omega,fun i hi=>by rw [hl] at hi;omega⟩
 ·refine ⟨_,cap,by rw [hl],by rw [hl];exact h1,h2,fun i hi=>⟨g,0,rfl,(Array.getElem?_eq_some_iff.1 hc).1,hg,?_⟩⟩
  rw [hl] at hi
  have hx:∀ j,j < 2→w.cell? ⟨g,i * 2+j,none⟩=(rowVs ur[i])[j]?:=fun j hj=>by
   have e:=flat_get rowVs 2 (fun _=>rfl) ur i hi j hj
   rw [row_cell h.own (u:=(rowVs ur[i])[j]'(by show j < 2;exact hj)) (by rw [e];simp)]
   simp
  have hm:=List.getElem_mem hi
  dsimp only
  rw [getD_get dR (by rw [hl];exact hi),Nat.zero_add,List.getElem_map]
  exact ⟨ur[i].1,hx 0 (by omega),hx 1 (by omega),(h.cells _ hm).at (hs _ hm)⟩
end Go.Proofs.YtcbibdhlkdcmiafGreat
namespace Go.Proofs.YtcbibdhlkdcmiafGreat
open Go.RowKit

/-- a slice of m elements over a new block of such cells -/
def PB (n0:Nat) (w:World) (t:TypeId) (m:Nat) (P:Array Value→Prop) (u:Value):Prop:=∃ g arr,u=.slice (some ⟨g,0,none⟩) m m∧Hp n0 w g (.cells arr t)∧P arr
/-- a pointer into a new block of such cells -/
def PP (n0:Nat) (w:World) (t:TypeId) (P:Array Value→Nat→Prop) (u:Value):Prop:=∃ g k arr,u=.pointer (some ⟨g,k,none⟩)∧Hp n0 w g (.cells arr t)∧P arr k
theorem PB.bk {n0 m r:Nat} {w w':World} {t:TypeId} {P:Array Value→Prop} {u:Value} (h:PB n0 w t m P u) (hr:r < n0) (k:Bk r w w'):PB n0 w' t m P u:=by
 obtain ⟨g,arr,e,hg,hp⟩:=h;exact ⟨g,arr,e,hg.bk hr k,hp⟩
theorem PP.bk {n0 r:Nat} {w w':World} {t:TypeId} {P:Array Value→Nat→Prop} {u:Value} (h:PP n0 w t P u) (hr:r < n0) (k:Bk r w w'):PP n0 w' t P u:=by
 obtain ⟨g,i,arr,e,hg,hp⟩:=h;exact ⟨g,i,arr,e,hg.bk hr k,hp⟩
theorem row_bk {w w':World} {base r:Nat} {e:TypeId} {sz:Nat} {v:Value} {m:Nat} {xs:List Value} (h:w.ownsRow base e sz v m xs) (k:Bk r w w') (hr:r < base):w'.ownsRow base e sz v m xs :=
 ⟨h.1,h.2.elim Or.inl (fun ⟨g,cap,cur,hv,hg,hc,q⟩=>Or.inr ⟨g,cap,cur,hv,hg,(k.block g (Array.getElem?_eq_some_iff.1 hc).1 (by omega)).trans hc,q⟩)⟩
theorem Bk.grown {r:Nat} {a b c:World} {u:Option Nat} (h:Bk r a b) (k:b.grownBy c u) (hu:∀ i,u=some i→a.heap.size≤i):Bk r a c :=
 ⟨k.os.trans h.os,k.tape.trans h.tape,k.output.trans h.output,Nat.le_trans h.size k.size,fun i hi hr=>(k.block i (Nat.lt_of_lt_of_le hi h.size) (fun e=>by have:=hu i e.symm;omega)).trans (h.block i hi hr)⟩
theorem Rd.grown {r B:Nat} {b c:World} {u:Option Nat} (h:Rd b r B) (k:b.grownBy c u) (hu:∀ i,u=some i→r < i):Rd c r B :=
 h.keep (fun i hi=>k.block i (Nat.lt_of_le_of_lt hi h.lt) (fun e=>by have:=hu i e.symm;omega))
theorem blk_grown {b c:World} {u:Option Nat} {g:Nat} {o:Obj} (h:b.heap[g]?=some o) (k:b.grownBy c u) (hu:some g ≠ u):c.heap[g]?=some o :=
 (k.block g (Array.getElem?_eq_some_iff.1 h).1 hu).trans h
theorem ne_of_own {v:Value} {g:Nat} (h:v.ownBlock=none∨v.ownBlock ≠ some g):some g ≠ v.ownBlock:=fun e=>by
 rcases h with h | h
 ·rw [h] at e;cases e
 ·exact h e.symm
/-- a store beside a row -/
theorem row_set {w:World} {base:Nat} {e e':TypeId} {sz:Nat} {v:Value} {m:Nat} {xs:List Value} {g p:Nat} {cur:Array Value} (h:w.ownsRow base e sz v m xs) (h':w.heap[g]?=some (.cells cur e')) (he:e ≠ e') (u:Value):(w.setCell ⟨g,p,none⟩ u).ownsRow base e sz v m xs :=
 row_off (n:=base) (b1:=some g) (b2:=none) h (Off.set w ⟨g,p,none⟩ rfl u) (Nat.le_refl _) (row_ne_block h h' he) (by cases v.ownBlock <;> simp)
/-- what else is to stay while a row is appended to, and a block is written -/
def Stays (n0 tb:Nat) (u:Value) (F:World→Prop):Prop:=∀ w w',F w→Off n0 (some tb) u.ownBlock w w'→F w'
end Go.Proofs.YtcbibdhlkdcmiafGreat
namespace Go.Proofs.YtcbibdhlkdcmiafGreat
open Go.RowKit

def inB (n lo hi:Int):Bool:=decide (lo≤n∧n≤hi)
theorem retB {a b:Bool} (h:a=b):Ending.returned (.bool a)=.returned (.bool b):=by rw [h]
theorem inB_true {n lo hi:Int} (h1:lo≤n) (h2:n≤hi):inB n lo hi=true:=by simp [inB,h1,h2]
theorem inB_false {n lo hi:Int} (h:¬ (lo≤n∧n≤hi)):inB n lo hi=false:=by simp only [inB,h,decide_false]
end Go.Proofs.YtcbibdhlkdcmiafGreat
namespace Go.Proofs.YtcbibdhlkdcmiafGreat
open Go.RowKit

theorem within_any (n lo hi:Int) (w:World) :
  Calls Tryz.prog 51 #[.int .i64 n,.int .i64 lo,.int .i64 hi] w fun e w'=>e=.returned (.bool (inB n lo hi))∧w'=w:=by
 by_cases h1:lo≤n
 ·by_cases h2:n≤hi
  ·have HB:Hid (inB n lo hi=true):=inB_true h1 h2
   go_enter Tryz.func51,Tryz.ntmps51
   go_wp2
   go_ret
   exact ⟨retB HB.out.symm,rfl⟩
  ·have HB:Hid (inB n lo hi=false):=inB_false (by omega)
   go_enter Tryz.func51,Tryz.ntmps51
   go_wp2
   go_ret
   exact ⟨retB HB.out.symm,rfl⟩
 ·have HB:Hid (inB n lo hi=false):=inB_false (by omega)
  go_enter Tryz.func51,Tryz.ntmps51
  go_wp2
  go_ret
  exact ⟨retB HB.out.symm,rfl⟩

theorem l1In_any (n lo hi:Int) (w:World) :
  Calls Tryz.prog 40 #[.int .i64 n,.int .i64 lo,.int .i64 hi] w fun e w'=>e=.returned (.bool (inB n lo hi))∧w'=w:=by
 by_cases h1:lo≤n
 ·by_cases h2:n≤hi
  ·have HB:Hid (inB n lo hi=true):=inB_true h1 h2
   go_enter Tryz.func40,Tryz.ntmps40
   go_wp2
   go_ret
   exact ⟨retB HB.out.symm,rfl⟩
  ·have HB:Hid (inB n lo hi=false):=inB_false (by omega)
   go_enter Tryz.func40,Tryz.ntmps40
   go_wp2
   go_ret
   exact ⟨retB HB.out.symm,rfl⟩
 ·have HB:Hid (inB n lo hi=false):=inB_false (by omega)
  go_enter Tryz.func40,Tryz.ntmps40
  go_wp2
  go_ret
  exact ⟨retB HB.out.symm,rfl⟩
end Go.Proofs.YtcbibdhlkdcmiafGreat
namespace Go.Proofs.YtcbibdhlkdcmiafGreat
open Go.RowKit

/-- a cell at its place -/
structure GC where
 row:Int
 col:Int
 rows:Int
 cols:Int
 ins:Int
/-- a grid -/
structure G where
 rows:Int
 cols:Int
 cells:List GC
def dG:GC:=⟨0,0,0,0,0⟩
def I64 (n:Int):Prop:=-9223372036854775808≤n∧n≤9223372036854775807
def GOk (x:GC):Prop:=I64 x.row∧I64 x.col∧I64 x.rows∧I64 x.cols∧I64 x.ins
/-- the five cells of a cell from an address on -/
def GIs (w:World) (b o:Nat) (x:GC):Prop :=
 w.cell? ⟨b,o,none⟩=some (.int .i64 x.row)∧w.cell? ⟨b,o+1,none⟩=some (.int .i64 x.col)∧w.cell? ⟨b,o+2,none⟩=some (.int .i64 x.rows) ∧
 w.cell? ⟨b,o+3,none⟩=some (.int .i64 x.cols)∧w.cell? ⟨b,o+4,none⟩=some (.int .i64 x.ins)
def GsAt (w:World) (z:Nat) (v:Value) (gs:List GC):Prop:=At w z v gs.length 5 (fun i b o=>GIs w b o (gs.getD i dG)∧GOk (gs.getD i dG))
def GrdAt (w:World) (z:Nat) (v:Value) (g:G):Prop:=∃ vc,v=.agg #[.int .i64 g.rows,.int .i64 g.cols,vc]∧GsAt w z vc g.cells

theorem GIs.since {w w':World} {z b o:Nat} {x:GC} (h:GIs w b o x) (hb:b < w.heap.size) (hz:z≤b) (k:Since z w w'):GIs w' b o x:=by
 unfold GIs at h ⊢
 simp only [k.cell hz hb]
 exact h
theorem GsAt.since {w w':World} {z:Nat} {v:Value} {gs:List GC} (h:GsAt w z v gs) (k:Since z w w'):GsAt w' z v gs :=
 At.mono h k.size (Nat.le_refl _) (fun _ _ _ _ hb hz he=>⟨he.1.since hb hz k,he.2⟩)
theorem GsAt.kept {w w':World} {z:Nat} {v:Value} {gs:List GC} (h:GsAt w z v gs) (k:Below w.heap.size w w'):GsAt w' z v gs:=h.since (.of_below k)
theorem GsAt.base {w:World} {z z':Nat} {v:Value} {gs:List GC} (h:GsAt w z v gs) (hz:z'≤z):GsAt w z' v gs:=At.mono h (Nat.le_refl _) hz (fun _ _ _ _ _ _ he=>he)

/-- the place of the first cell of a kind; -1, if there is none -/
def findTo (p:GC→Bool) (gs:List GC):Int:=match gs.findIdx? p with | some k=>(k:Int) | none=>-1
end Go.Proofs.YtcbibdhlkdcmiafGreat
namespace Go.Proofs.YtcbibdhlkdcmiafGreat
open Go.RowKit

def boundsB (R C:Int) (n:Nat):Bool:=inB R 1 8 && (inB C 1 94 && decide (n≤40))
def fitsB (R C:Int) (x:GC):Bool:=inB x.row 0 (R - 1) && (inB x.rows 1 (R - x.row) && (inB x.col 0 (C - 1) && (inB x.cols 1 (C - x.col) && inB x.ins 0 4)))
def meetsB (a b:GC):Bool:=decide (a.row < b.row+b.rows) && (decide (b.row < a.row+a.rows) && (decide (a.col < b.col+b.cols) && decide (b.col < a.col+a.cols)))
def freeG (xs:List GC) (x:GC):Bool:=xs.all fun a=>!meetsB a x
def okTo (R C:Int) (gs:List GC) (k:Nat):Bool:=(List.range k).all fun i=>fitsB R C (gs.getD i dG) && freeG (gs.take i) (gs.getD i dG)
def okB (g:G):Bool:=boundsB g.rows g.cols g.cells.length && okTo g.rows g.cols g.cells g.cells.length
/-- a cell that fits, in plain numbers -/
def Fit5 (R C:Int) (x:GC) (r c rs cs:Nat):Prop:=x.row=r∧x.col=c∧x.rows=rs∧x.cols=cs∧1≤rs∧1≤cs∧((r+rs:Nat):Int)≤R∧((c+cs:Nat):Int)≤C
theorem fits_of {R C:Int} {x:GC} (h:fitsB R C x=true):Fit5 R C x x.row.toNat x.col.toNat x.rows.toNat x.cols.toNat:=by
 simp [fitsB,inB] at h
 unfold Fit5
 omega
def slotsG (x:GC):List Sl:=rowsSl x.row.toNat x.col.toNat x.cols.toNat x.rows.toNat
/-- the slots of cells -/
def takenBy (gs:List GC):List (Nat × Nat):=(gs.flatMap slotsG).map (·.1)
theorem takenBy_snoc (gs:List GC) (x:GC):takenBy (gs ++ [x])=takenBy gs ++ (slotsG x).map (·.1):=by simp [takenBy]
theorem mem_rowsSl {r c rs cs:Nat} (hr:r+rs≤1000) (hc:c+cs≤1000) (y:Nat × Nat):y ∈ (rowsSl r c cs rs).map (·.1) ↔ (r≤y.1∧y.1 < r+rs)∧c≤y.2∧y.2 < c+cs:=by
 simp only [rowsSl,rowSl,List.mem_map,List.mem_flatMap,List.mem_range]
 constructor
 ·rintro ⟨z,⟨i,hi,j,hj,rfl⟩,rfl⟩
  rw [toSl_val (by omega)]
  dsimp only
  omega
 ·rintro ⟨⟨h1,h2⟩,h3,h4⟩
  refine ⟨toSl (r+(y.1 - r)) (c+(y.2 - c)),⟨y.1 - r,by omega,y.2 - c,by omega,rfl⟩,?_⟩
  rw [toSl_val (by omega)]
  exact Prod.ext (by dsimp only;omega) (by dsimp only;omega)
theorem mem_slotsG {R C:Int} {x:GC} (h:fitsB R C x=true) (hR:R≤8) (hC:C≤94) (y:Nat × Nat):y ∈ (slotsG x).map (·.1) ↔ (x.row≤y.1∧(y.1:Int) < x.row+x.rows)∧x.col≤y.2∧(y.2:Int) < x.col+x.cols:=by
 obtain ⟨e1,e2,e3,e4,h1,h2,h3,h4⟩:=fits_of h
 unfold slotsG
 rw [mem_rowsSl (by omega) (by omega)]
 omega
/-- cells meet just if they have a slot in common -/
theorem meets_iff {R C:Int} {a x:GC} (ha:fitsB R C a=true) (hx:fitsB R C x=true) (hR:R≤8) (hC:C≤94):meetsB a x=true ↔ ∃ y,y ∈ (slotsG a).map (·.1)∧y ∈ (slotsG x).map (·.1):=by
 obtain ⟨a1,a2,a3,a4,a5,a6,a7,a8⟩:=fits_of ha
 obtain ⟨x1,x2,x3,x4,x5,x6,x7,x8⟩:=fits_of hx
 have e:meetsB a x=true ↔ a.row < x.row+x.rows∧x.row < a.row+a.rows∧a.col < x.col+x.cols∧x.col < a.col+a.cols:=by simp [meetsB]
 rw [e]
 constructor
 ·rintro ⟨h1,h2,h3,h4⟩
  refine ⟨(max a.row.toNat x.row.toNat,max a.col.toNat x.col.toNat),(mem_slotsG ha hR hC _).2 ?_,(mem_slotsG hx hR hC _).2 ?_⟩
  ·dsimp only;omega
  ·dsimp only;omega
 ·rintro ⟨y,h1,h2⟩
  have k1:=(mem_slotsG ha hR hC _).1 h1
  have k2:=(mem_slotsG hx hR hC _).1 h2
  omega
theorem free_eq {R C:Int} {gs:List GC} {x:GC} (hg:∀ a ∈ gs,fitsB R C a=true) (hx:fitsB R C x=true) (hR:R≤8) (hC:C≤94):freeIn (takenBy gs) x.row.toNat x.col.toNat x.rows.toNat x.cols.toNat=freeG gs x:=by
 rw [Bool.eq_iff_iff]
 unfold freeIn freeG
 rw [List.all_eq_true,List.all_eq_true]
 constructor
 ·intro h a ha
  cases hm:meetsB a x with
  | false=>rfl
  | true =>
   obtain ⟨y,h1,h2⟩:=(meets_iff (hg a ha) hx hR hC).1 hm
   obtain ⟨z,hz,rfl⟩:=List.mem_map.1 h2
   have:=of_decide_eq_true (h z hz)
   refine absurd ?_ this
   obtain ⟨u,hu,e⟩:=List.mem_map.1 h1
   exact List.mem_map.2 ⟨u,List.mem_flatMap.2 ⟨a,ha,hu⟩,e⟩
 ·intro h z hz
  refine decide_eq_true (fun hm=>?_)
  obtain ⟨u,hu,e⟩:=List.mem_map.1 hm
  obtain ⟨a,ha,hua⟩:=List.mem_flatMap.1 hu
  have:=h a ha
  rw [(meets_iff (hg a ha) hx hR hC).2 ⟨z.1,List.mem_map.2 ⟨u,hua,e⟩,List.mem_map.2 ⟨z,hz,rfl⟩⟩] at this
  cases this
theorem rowSl_len (r c a:Nat):(rowSl r c a).length=a:=by simp [rowSl]
theorem rowsSl_len (r c cs d:Nat):(rowsSl r c cs d).length=d * cs:=by
 induction d with
 | zero=>simp [rowsSl]
 | succ d ih=>rw [rowsSl_succ,List.length_append,ih,rowSl_len,Nat.succ_mul]
theorem slotsG_len {R C:Int} {x:GC} (h:fitsB R C x=true) (hR:R≤8) (hC:C≤94):(slotsG x).length≤752:=by
 obtain ⟨e1,e2,e3,e4,h1,h2,h3,h4⟩:=fits_of h
 unfold slotsG
 rw [rowsSl_len]
 have a1:x.rows.toNat≤8:=by omega
 have a2:x.cols.toNat≤94:=by omega
 exact Nat.mul_le_mul a1 a2
theorem takenBy_len {R C:Int} (hR:R≤8) (hC:C≤94):∀ (gs:List GC),(∀ a ∈ gs,fitsB R C a=true)→(takenBy gs).length≤gs.length * 752
 | [],_=>by simp [takenBy]
 | a :: t,h=>by
  have h1:=slotsG_len (h a (by simp)) hR hC
  have h2:=takenBy_len hR hC t (fun b hb=>h b (by simp [hb]))
  simp only [takenBy,List.length_map,List.flatMap_cons,List.length_append,List.length_cons] at h2 ⊢
  omega
end Go.Proofs.YtcbibdhlkdcmiafGreat
namespace Go.Proofs.YtcbibdhlkdcmiafGreat

/-- an interval of seven shuts no more than seven columns -/
theorem cnt7 (l:Int) (N:Nat):(((List.range N).countP (fun c:Nat=>decide (l≤(c:Int)∧(c:Int) < l+7)):Nat):Int)≤max 0 (min 7 (N - l)):=by
 induction N with
 | zero=>simp;omega
 | succ N ih =>
  rw [List.range_succ,List.countP_append,List.countP_cons,List.countP_nil]
  by_cases h:l≤(N:Int)∧(N:Int) < l+7
  ·rw [if_pos (decide_eq_true h)];omega
  ·rw [if_neg (by simpa using h)];omega
theorem countP_or {α:Type} (p q:α→Bool) (l:List α):l.countP (fun x=>p x || q x)≤l.countP p+l.countP q:=by
 induction l with
 | nil=>simp
 | cons a t ih =>
  rw [List.countP_cons,List.countP_cons,List.countP_cons]
  cases p a <;> cases q a <;> simp <;> omega
theorem shut_cnt (N:Nat):∀ ls:List Int,(List.range N).countP (fun c:Nat=>ls.any fun l=>decide (l≤(c:Int)∧(c:Int) < l+7))≤7 * ls.length
 | []=>by simp
 | l :: t=>by
  have h1:=shut_cnt N t
  have h2:=cnt7 l N
  have h3:=countP_or (fun c:Nat=>decide (l≤(c:Int)∧(c:Int) < l+7)) (fun c:Nat=>t.any fun l=>decide (l≤(c:Int)∧(c:Int) < l+7)) (List.range N)
  simp only [List.any_cons,List.length_cons]
  omega
theorem shut_some (ls:List Int):∃ c:Nat,c≤7 * ls.length∧∀ l ∈ ls,¬ (l≤(c:Int)∧(c:Int) < l+7):=by
 apply Classical.byContradiction
 intro hn
 have hall:∀ c ∈ List.range (7 * ls.length+1),(ls.any fun l=>decide (l≤(c:Int)∧(c:Int) < l+7))=true:=by
  intro c hc
  rw [List.mem_range] at hc
  apply Classical.byContradiction
  intro h
  refine hn ⟨c,by omega,fun l hl h2=>h ?_⟩
  exact List.any_eq_true.2 ⟨l,hl,decide_eq_true h2⟩
 have h1:=List.countP_eq_length.2 hall
 have h2:=shut_cnt (7 * ls.length+1) ls
 rw [List.length_range] at h1
 omega
/-- a cell at another column -/
def atCol (x:GC) (c:Int):GC:=⟨x.row,c,x.rows,x.cols,x.ins⟩
/-- whether two cells have a row in common -/
def rowMeets (a x:GC):Bool:=decide (a.row < x.row+x.rows) && decide (x.row < a.row+a.rows)
theorem free_exists (gs:List GC) (x:GC) (hx:1≤x.cols∧x.cols≤4) (hg:∀ a ∈ gs,1≤a.cols∧a.cols≤4):∃ c:Nat,c≤7 * (gs.filter fun a=>rowMeets a x).length∧freeG gs (atCol x c)=true:=by
 obtain ⟨c,h1,h2⟩:=shut_some ((gs.filter fun a=>rowMeets a x).map fun a=>a.col - x.cols+1)
 rw [List.length_map] at h1
 refine ⟨c,h1,List.all_eq_true.2 fun a ha=>?_⟩
 cases hm:meetsB a (atCol x c) with
 | false=>rfl
 | true =>
  exfalso
  unfold meetsB atCol at hm
  simp only [Bool.and_eq_true,decide_eq_true_eq] at hm
  have hc:=hg a ha
  refine h2 (a.col - x.cols+1) (List.mem_map.2 ⟨a,List.mem_filter.2 ⟨ha,?_⟩,rfl⟩) (by omega)
  simp only [rowMeets,Bool.and_eq_true,decide_eq_true_eq]
  omega
/-- the first column, of so many, at which a cell is free -/
def ffreeN (N:Nat) (gs:List GC) (x:GC):Nat:=(List.range N).findIdx (fun c:Nat=>freeG gs (atCol x c))
theorem ffreeN_le {N:Nat} {gs:List GC} {x:GC} {c:Nat} (hc:c < N) (h:freeG gs (atCol x c)=true):ffreeN N gs x≤c∧freeG gs (atCol x (ffreeN N gs x))=true∧∀ k,k < ffreeN N gs x→freeG gs (atCol x (k:Nat))=false:=by
 have hl:ffreeN N gs x < (List.range N).length:=List.findIdx_lt_length_of_exists ⟨c,List.mem_range.2 hc,h⟩
 have hno:∀ k,k < ffreeN N gs x→freeG gs (atCol x (k:Nat))=false:=by
  intro k hk
  have:=List.not_of_lt_findIdx (p:=fun c:Nat=>freeG gs (atCol x c)) (xs:=List.range N) hk
  simpa using this
 refine ⟨?_,?_,hno⟩
 ·apply Classical.byContradiction
  intro hn
  have:=hno c (by omega)
  rw [h] at this
  cases this
 ·have e:(List.range N)[ffreeN N gs x]'hl=ffreeN N gs x:=List.getElem_range hl
  have h1:freeG gs (atCol x (((List.range N)[ffreeN N gs x]'hl:Nat):Int))=true:=List.findIdx_getElem (p:=fun c:Nat=>freeG gs (atCol x c)) (xs:=List.range N) (w:=hl)
  rw [e] at h1
  exact h1
/-- the first column at which a cell is free -/
def ffree (gs:List GC) (x:GC):Nat:=ffreeN 1000 gs x
theorem ffree_le {gs:List GC} {x:GC} {c:Nat} (hc:c < 1000) (h:freeG gs (atCol x c)=true):ffree gs x≤c∧freeG gs (atCol x (ffree gs x))=true∧∀ k,k < ffree gs x→freeG gs (atCol x (k:Nat))=false:=ffreeN_le hc h
/-- the row behind the part of a row -/
def endOf (t:T) (r:Nat):Int:=if (r:Int) < t.head then t.head else if (t.rows.length:Int) - t.foot≤r then t.rows.length else t.rows.length - t.foot
/-- a cell in its row, its column not yet known -/
def bare (r i:Nat) (e:Int) (x:C):GC:=⟨r,0,min x.r (e - r),x.c,i⟩
/-- a cell put at its place -/
def place (gs:List GC) (r i:Nat) (e:Int) (x:C):GC:=atCol (bare r i e x) (ffree gs (bare r i e x))
/-- the first cells of a row put at their places -/
def rowTo (e:Int) (r:Nat) (cs:List C) (gs:List GC):Nat→List GC
 | 0=>gs
 | i+1=>rowTo e r cs gs i ++ [place (rowTo e r cs gs i) r i e (cs.getD i dC)]
/-- the cells of the first rows put at their places -/
def gridTo (t:T):Nat→List GC
 | 0=>[]
 | r+1=>rowTo (endOf t r) r (t.rows.getD r dR).cells (gridTo t r) (t.rows.getD r dR).cells.length
/-- how many columns there are -/
def colsOf (m:Int) (gs:List GC):Int:=gs.foldl (fun m a=>max m (a.col+a.cols)) m
theorem colsOf_snoc (m:Int) (gs:List GC) (x:GC):colsOf m (gs ++ [x])=max (colsOf m gs) (x.col+x.cols):=by simp [colsOf]
/-- what a drawn table's cells are, where it is ok: few, over no more than three rows -/
structure Low (t:T):Prop where
 rows:t.rows.length≤8
 span:∀ r ∈ t.rows,∀ x ∈ r.cells,(1≤x.c∧x.c≤4)∧1≤x.r∧x.r≤3
 few:∃ k,∀ i,(t.rows.getD i dR).cells.length≤if i=k then 5 else 4
 head:0≤t.head∧t.head≤t.rows.length
 foot:0≤t.foot∧t.head+t.foot≤t.rows.length
/-- a cell that stands in a grid of a drawn table -/
def Stands (n:Nat) (a:GC):Prop:=(0≤a.row∧1≤a.rows∧a.rows≤3∧a.row+a.rows≤n)∧(0≤a.col∧a.col≤84)∧(1≤a.cols∧a.cols≤4)∧0≤a.ins∧a.ins≤4
theorem endOf_bounds {t:T} (h:Low t) {r:Nat} (hr:r < t.rows.length):(r:Int) < endOf t r∧endOf t r≤t.rows.length:=by
 have h1:=h.head
 have h2:=h.foot
 unfold endOf
 split
 ·omega
 ·split <;> omega
/-- how many of the first rows' cells have a row -/
def cntRow (gs:List GC) (q:Int):Nat:=gs.countP fun a=>decide (a.row=q)
theorem cntRow_snoc (gs:List GC) (x:GC) (q:Int):cntRow (gs ++ [x]) q=cntRow gs q+if x.row=q then 1 else 0:=by
 simp [cntRow,List.countP_append,List.countP_cons]
/-- cells that have a row in common with one in row r begin in row r or one of the two above -/
theorem meet_cnt (r:Nat) (x:GC) (hx:x.row=r):∀ gs:List GC,(∀ a ∈ gs,a.row≤r∧a.rows≤3)→(gs.filter fun a=>rowMeets a x).length≤cntRow gs r+(cntRow gs ((r:Int) - 1)+cntRow gs ((r:Int) - 2))
 | [],_=>by simp
 | a :: t,h=>by
  have ih:=meet_cnt r x hx t (fun b hb=>h b (by simp [hb]))
  have ha:=h a (by simp)
  unfold cntRow at ih ⊢
  rw [List.countP_cons,List.countP_cons,List.countP_cons,List.filter_cons]
  split
  ·rename_i hm
   simp only [rowMeets,Bool.and_eq_true,decide_eq_true_eq] at hm
   rw [List.length_cons]
   rcases (by omega:a.row=r∨a.row=(r:Int) - 1∨a.row=(r:Int) - 2) with e | e | e
   ·simp [e];omega
   ·simp [e];omega
   ·simp [e];omega
  ·omega
/-- what is known behind some rows and some cells of the next one -/
structure Part (t:T) (gs:List GC) (r i:Nat):Prop where
 stands:∀ a ∈ gs,Stands t.rows.length a∧a.row≤r
 cnt:∀ q:Nat,cntRow gs q=if q < r then (t.rows.getD q dR).cells.length else if q=r then i else 0
 neg:∀ q:Int,q < 0→cntRow gs q=0
theorem Part.few {t:T} {gs:List GC} {r i:Nat} (h:Part t gs r i) (hl:Low t) (hi:i < (t.rows.getD r dR).cells.length) (x:GC) (hx:x.row=r):(gs.filter fun a=>rowMeets a x).length≤12:=by
 have h1:=meet_cnt r x hx gs (fun a ha=>⟨(h.stands a ha).2,(h.stands a ha).1.1.2.2.1⟩)
 obtain ⟨k,hk⟩:=hl.few
 have k0:=hk r
 have c0:=h.cnt r
 rw [if_neg (by omega),if_pos rfl] at c0
 have c1:cntRow gs ((r:Int) - 1)≤if r - 1=k∧1≤r then 5 else 4:=by
  by_cases hr:1≤r
  ·have e:=h.cnt (r - 1)
   rw [if_pos (by omega),show ((r - 1:Nat):Int)=(r:Int) - 1 by omega] at e
   have:=hk (r - 1)
   split at this <;> split <;> omega
  ·rw [h.neg _ (by omega)];omega
 have c2:cntRow gs ((r:Int) - 2)≤if r - 2=k∧2≤r then 5 else 4:=by
  by_cases hr:2≤r
  ·have e:=h.cnt (r - 2)
   rw [if_pos (by omega),show ((r - 2:Nat):Int)=(r:Int) - 2 by omega] at e
   have:=hk (r - 2)
   split at this <;> split <;> omega
  ·rw [h.neg _ (by omega)];omega
 split at k0 <;> split at c1 <;> split at c2 <;> omega
theorem getD_mem' {α:Type} {l:List α} {i:Nat} {d:α} (h:i < l.length):l.getD i d ∈ l:=by
 have e:l.getD i d=l[i]:=by simp [List.getD,h]
 rw [e];exact List.getElem_mem _
/-- the next cell: it finds its column ahead of the 85th -/
theorem Part.next {t:T} {gs:List GC} {r i:Nat} (h:Part t gs r i) (hl:Low t) (hr:r < t.rows.length) (hi:i < (t.rows.getD r dR).cells.length) :
  (let x:=bare r i (endOf t r) ((t.rows.getD r dR).cells.getD i dC)
   ffree gs x≤84∧freeG gs (atCol x (ffree gs x))=true∧(∀ k,k < ffree gs x→freeG gs (atCol x (k:Nat))=false)∧∀ k:Nat,k≤84→Stands t.rows.length (atCol x k)) ∧
  Part t (gs ++ [place gs r i (endOf t r) ((t.rows.getD r dR).cells.getD i dC)]) r (i+1):=by
 have hm:=getD_mem' (d:=dR) hr
 have hx:=hl.span _ hm _ (getD_mem' (d:=dC) hi)
 have he:=endOf_bounds hl hr
 have hi5:i≤4:=by
  obtain ⟨k,hk⟩:=hl.few
  have:=hk r
  split at this <;> omega
 dsimp only
 generalize hX:(t.rows.getD r dR).cells.getD i dC=x at hx
 have hf:=h.few hl hi (bare r i (endOf t r) x) rfl
 obtain ⟨c,hc,hfree⟩:=free_exists gs (bare r i (endOf t r) x) hx.1 (fun a ha=>(h.stands a ha).1.2.2.1)
 obtain ⟨f1,f2,f3⟩:=ffree_le (by omega) hfree
 have hst:∀ k:Nat,k≤84→Stands t.rows.length (atCol (bare r i (endOf t r) x) k):=by
  intro k hk
  simp only [Stands,atCol,bare]
  omega
 refine ⟨⟨by omega,f2,f3,hst⟩,?_,?_,?_⟩
 ·intro a ha
  rcases List.mem_append.1 ha with ha | ha
  ·exact h.stands a ha
  ·simp at ha
   subst ha
   exact ⟨hst _ (by omega),Int.le_refl _⟩
 ·intro q
  have hrow:(place gs r i (endOf t r) x).row=(r:Int):=rfl
  rw [cntRow_snoc,h.cnt q,hrow]
  by_cases h1:q < r
  ·rw [if_pos h1,if_pos h1,if_neg (by omega:¬ (r:Int)=q),Nat.add_zero]
  ·rw [if_neg h1,if_neg h1]
   by_cases h2:q=r
   ·subst h2;simp
   ·rw [if_neg h2,if_neg h2,if_neg (by omega)]
 ·intro q hq
  have hrow:(place gs r i (endOf t r) x).row=(r:Int):=rfl
  rw [cntRow_snoc,h.neg q hq,hrow,if_neg (by omega)]
theorem Part.zero (t:T):Part t [] 0 0:=⟨fun a ha=>(by cases ha),fun q=>(by simp [cntRow]),fun q _=>(by simp [cntRow])⟩
theorem Part.rowEnd {t:T} {gs:List GC} {r:Nat} (h:Part t gs r (t.rows.getD r dR).cells.length):Part t gs (r+1) 0:=by
 refine ⟨fun a ha=>⟨(h.stands a ha).1,by have:=(h.stands a ha).2;omega⟩,fun q=>?_,h.neg⟩
 rw [h.cnt q]
 by_cases h1:q < r
 ·rw [if_pos h1,if_pos (by omega)]
 ·rw [if_neg h1]
  by_cases h2:q=r
  ·subst h2;simp
  ·rw [if_neg h2,if_neg (by omega)]
   split <;> rfl
theorem part_row {t:T} (hl:Low t) {r:Nat} (hr:r < t.rows.length) (h:Part t (gridTo t r) r 0):∀ i,i≤(t.rows.getD r dR).cells.length→Part t (rowTo (endOf t r) r (t.rows.getD r dR).cells (gridTo t r) i) r i
 | 0,_=>h
 | i+1,hi=>(Part.next (part_row hl hr h i (by omega)) hl hr (by omega)).2
theorem part_grid {t:T} (hl:Low t):∀ r,r≤t.rows.length→Part t (gridTo t r) r 0
 | 0,_=>Part.zero t
 | r+1,hr=>(part_row hl (by omega) (part_grid hl r (by omega)) _ (Nat.le_refl _)).rowEnd
theorem rowTo_len (e:Int) (r:Nat) (cs:List C) (gs:List GC) (i:Nat):(rowTo e r cs gs i).length=gs.length+i:=by
 induction i with
 | zero=>rfl
 | succ i ih=>simp only [rowTo,List.length_append,ih,List.length_cons,List.length_nil];omega
theorem grid_len {t:T} (hl:Low t) (r:Nat):(gridTo t r).length≤5 * r:=by
 induction r with
 | zero=>simp [gridTo]
 | succ r ih =>
  obtain ⟨k,hk⟩:=hl.few
  have:=hk r
  simp only [gridTo,rowTo_len]
  split at this <;> omega
/-- the grid of a drawn table -/
def gridOf (t:T):List GC:=gridTo t t.rows.length
end Go.Proofs.YtcbibdhlkdcmiafGreat
namespace Go.Proofs.YtcbibdhlkdcmiafGreat
open Go.RowKit

/-- a world in which what was in memory is as it was -/
structure BW (w:World) where
 u:World
 h:Below w.heap.size w u
theorem bw_some (w:World):Nonempty (BW w):=⟨⟨w,Below.refl _ _⟩⟩
theorem wp_region_quiet_below {P:Program} {id:Nat} {Q:Exit→Act→World→Prop} {a:Act} {w:World} {l:List Oper} (hm:P.follows .mixedOrders=true) (hB:Region.lexB .any l.toArray=true)
  (h:wpQuiet P l.toArray (fun w'=>∃ p:BW w,w'=p.u) (fun a'=>∀ w',(∃ p:BW w,w'=p.u)→Q .normal a' w') l a):(Code.region id l.toArray true).wp P Q a w :=
 wp_region_quiet (C:=fun w'=>∃ p:BW w,w'=p.u) hm hB ⟨⟨_,k_drew (Below.refl _ _)⟩,rfl⟩ (by simpa using h)
theorem bw_of {P:Program} {f:FuncId} {args:Array Value} {w:World} {p:BW w} {v:Value} (h:Calls P f args p.u fun e w'=>e=.returned v∧Below p.u.heap.size p.u w') :
  Calls P f args p.u fun e w''=>e=.returned v∧∃ p:BW w,w''=p.u :=
 h.mono fun _ _ ⟨he,hb⟩=>⟨he,⟨_,k_trans p.h hb⟩,rfl⟩
theorem bw_same {P:Program} {f:FuncId} {args:Array Value} {w:World} {p:BW w} {v:Value} (h:Calls P f args p.u fun e w'=>e=.returned v∧w'=p.u) :
  Calls P f args p.u fun e w''=>e=.returned v∧∃ p:BW w,w''=p.u :=
 h.mono fun _ _ ⟨he,hb⟩=>⟨he,p,hb⟩
theorem bw_cell {w:World} {a:Addr} {v:Value} (hb:a.block < w.heap.size) (h:w.cell? a=some v) (p:BW w):p.u.cell? a=some v:=(p.h.cell hb).trans h
end Go.Proofs.YtcbibdhlkdcmiafGreat
namespace Go.Proofs.YtcbibdhlkdcmiafGreat
open Go.RowKit Go.BigFrame

/-- no number of a cell is great -/
def Sm (x:GC):Prop:=(0≤x.row∧x.row≤100000)∧(0≤x.col∧x.col≤100000)∧(0≤x.rows∧x.rows≤100000)∧(0≤x.cols∧x.cols≤100000)
theorem GsAt.take {w:World} {z:Nat} {ac:Option Addr} {cc:Nat} {gs:List GC} (h:GsAt w z (.slice ac gs.length cc) gs) {k:Nat} (hk:k≤gs.length):GsAt w z (.slice ac (gs.take k).length cc) (gs.take k):=by
 obtain ⟨a,cap,e,h1,h2,hx⟩:=h
 simp only [Value.slice.injEq,true_and] at e
 obtain ⟨rfl,rfl⟩:=e
 have hl:(gs.take k).length=k:=by rw [List.length_take];omega
 refine ⟨_,_,rfl,by omega,h2,fun i hi=>?_⟩
 obtain ⟨b,off,ea,hb,hz,he⟩:=hx i (by omega)
 have e:(gs.take k).getD i dG=gs.getD i dG:=by simp [List.getD,show i < k by omega]
 exact ⟨b,off,ea,hb,hz,by dsimp only;rw [e];exact he⟩

def gcA (x:GC):Value:=.agg #[.int .i64 x.row,.int .i64 x.col,.int .i64 x.rows,.int .i64 x.cols,.int .i64 x.ins]
set_option maxRecDepth 100000 in
set_option maxHeartbeats 1000000 in
theorem l3Meets_any (a b:GC) (ha:Sm a) (hb:Sm b) (w:World) :
  Calls Tryz.prog 115 #[.agg #[.int .i64 a.row,.int .i64 a.col,.int .i64 a.rows,.int .i64 a.cols,.int .i64 a.ins],.agg #[.int .i64 b.row,.int .i64 b.col,.int .i64 b.rows,.int .i64 b.cols,.int .i64 b.ins]] w fun e w'=>e=.returned (.bool (meetsB a b))∧Below w.heap.size w w':=by
 obtain ⟨a0,a1,a2,a3⟩:=ha
 obtain ⟨b0,b1,b2,b3⟩:=hb
 by_cases h1:a.row < b.row+b.rows
 ·by_cases h2:b.row < a.row+a.rows
  ·by_cases h3:a.col < b.col+b.cols
   ·have HE:Hid (meetsB a b=decide (b.col < a.col+a.cols)):=by
     show meetsB a b=_
     simp only [meetsB,h1,h2,h3,decide_true,Bool.true_and]
    go_enter Tryz.func115,Tryz.ntmps115
    go_wp2
    go_ret
    exact ⟨retB HE.out.symm,k_alloc (k_alloc (Below.refl _ _) _) _⟩
   ·have HE:Hid (meetsB a b=false):=by
     show meetsB a b=_
     simp only [meetsB,h3,decide_false,Bool.false_and,Bool.and_false]
    go_enter Tryz.func115,Tryz.ntmps115
    go_wp2
    go_ret
    exact ⟨retB HE.out.symm,k_alloc (k_alloc (Below.refl _ _) _) _⟩
  ·have HE:Hid (meetsB a b=false):=by
    show meetsB a b=_
    simp only [meetsB,h2,decide_false,Bool.false_and,Bool.and_false]
   go_enter Tryz.func115,Tryz.ntmps115
   go_wp2
   go_ret
   exact ⟨retB HE.out.symm,k_alloc (k_alloc (Below.refl _ _) _) _⟩
 ·have HE:Hid (meetsB a b=false):=by
   show meetsB a b=_
   simp only [meetsB,h1,decide_false,Bool.false_and]
  go_enter Tryz.func115,Tryz.ntmps115
  go_wp2
  go_ret
  exact ⟨retB HE.out.symm,k_alloc (k_alloc (Below.refl _ _) _) _⟩

theorem freeG_hit {gs:List GC} {x:GC} {k:Nat} (hk:k < gs.length) (h:meetsB (gs.getD k dG) x=true):freeG gs x=false:=by
 cases h2:freeG gs x with
 | false=>rfl
 | true =>
  have e:gs.getD k dG=gs[k]:=by simp [List.getD,hk]
  have:=List.all_eq_true.1 h2 gs[k] (List.getElem_mem hk)
  rw [← e,h] at this
  cases this
theorem freeG_all {gs:List GC} {x:GC} (h:∀ j,j < gs.length→meetsB (gs.getD j dG) x=false):freeG gs x=true:=by
 refine List.all_eq_true.2 (fun a ha=>?_)
 obtain ⟨i,hi,rfl⟩:=List.mem_iff_getElem.1 ha
 have:=h i hi
 have e:gs.getD i dG=gs[i]:=by simp [List.getD,hi]
 rw [e] at this
 rw [this];rfl

set_option maxRecDepth 100000 in
set_option maxHeartbeats 1000000 in
theorem l3Free_any (ac:Option Addr) (cc:Nat) (gs:List GC) (hgs:∀ a ∈ gs,Sm a) (x:GC) (hxs:Sm x) (w:World) {z:Nat} (h:GsAt w z (.slice ac gs.length cc) gs) :
  Calls Tryz.prog 86 #[.slice ac gs.length cc,.agg #[.int .i64 x.row,.int .i64 x.col,.int .i64 x.rows,.int .i64 x.cols,.int .i64 x.ins]] w fun e w'=>e=.returned (.bool (freeG gs x))∧Below w.heap.size w w':=by
 obtain ⟨_,_,_,hlen⟩:=At.form h
 unfold maxLen at hlen
 have K0:=Hid.intro (k_alloc (Below.refl w.heap.size w) (.cells #[.int .i64 x.row,.int .i64 x.col,.int .i64 x.rows,.int .i64 x.cols,.int .i64 x.ins] 50))
 have H:=Hid.intro h
 have HG:=Hid.intro hgs
 have HXS:=Hid.intro hxs
 have hmx:Tryz.prog.follows .mixedOrders=true:=by kernel_rfl
 clear h hgs hxs
 go_enter Tryz.func86,Tryz.ntmps86
 go_wp2_with fail
 go_loopw [5] (fun i W=>∃ k:Nat,k≤gs.length∧i=.int .i64 k∧Hid (∀ j,j < k→meetsB (gs.getD j dG) x=false)∧Hid (Below w.heap.size w W)∧Hid (W.heap[w.heap.size]?=some (.cells #[.int .i64 x.row,.int .i64 x.col,.int .i64 x.rows,.int .i64 x.cols,.int .i64 x.ins] 50))) (fun i _=>gs.length - (intOf i).toNat)
 case atStart=>exact ⟨0,Nat.zero_le _,rfl,fun j hj=>absurd hj (Nat.not_lt_zero _),K0.out,newestB _ _⟩
 case round =>
  obtain ⟨k,hk,rfl,HA,HB,HX⟩:=hrel
  have hz:w.heap.size < wr.heap.size:=(Array.getElem?_eq_some_iff.1 HX.out).1
  by_cases hlt:k < gs.length
  ·have hlt':(k:Int) < (gs.length:Int):=by omega
   have h0':(0:Int)≤(k:Int):=by omega
   obtain ⟨q,off,cap',e',hc1,hc2,hbl,hx,hs⟩:=At.get (H.out.kept HB.out) hlt
   simp only [Value.slice.injEq,true_and] at e'
   obtain ⟨rfl,rfl⟩:=e'
   have HH:Hid (meetsB (gs.getD k dG) x=true→freeG gs x=false):=fun hp=>freeG_hit hlt hp
   have HN:Hid (meetsB (gs.getD k dG) x=false→∀ j,j < k+1→meetsB (gs.getD j dG) x=false):=fun hp j hj=>by
    rcases Nat.lt_or_eq_of_le (Nat.lt_succ_iff.1 hj) with h1 | rfl
    ·exact HA.out j h1
    ·exact hp
   have HS:Sm (gs.getD k dG):=by
    have e:gs.getD k dG=gs[k]:=by simp [List.getD,hlt]
    rw [e]
    exact HG.out _ (List.getElem_mem hlt)
   have HL:=Hid.intro (l3Meets_any (gs.getD k dG) x HS HXS.out)
   clear HS hs
   generalize gs.getD k dG=y at hx HH HN HL
   obtain ⟨x0,x1,x2,x3,x4⟩:=hx
   have y0:=bw_cell (a:=⟨q,off+k * 5,none⟩) hbl x0
   have y1:=bw_cell (a:=⟨q,off+k * 5+1,none⟩) hbl x1
   have y2:=bw_cell (a:=⟨q,off+k * 5+2,none⟩) hbl x2
   have y3:=bw_cell (a:=⟨q,off+k * 5+3,none⟩) hbl x3
   have y4:=bw_cell (a:=⟨q,off+k * 5+4,none⟩) hbl x4
   have b0:=bw_cell (a:=⟨w.heap.size,0,none⟩) (v:=.int .i64 x.row) hz (cellB HX.out)
   have b1:=bw_cell (a:=⟨w.heap.size,1,none⟩) (v:=.int .i64 x.col) hz (cellB HX.out)
   have b2:=bw_cell (a:=⟨w.heap.size,2,none⟩) (v:=.int .i64 x.rows) hz (cellB HX.out)
   have b3:=bw_cell (a:=⟨w.heap.size,3,none⟩) (v:=.int .i64 x.cols) hz (cellB HX.out)
   have b4:=bw_cell (a:=⟨w.heap.size,4,none⟩) (v:=.int .i64 x.ins) hz (cellB HX.out)
   unfold maxLen at hc2
   clear x0 x1 x2 x3 x4
   go_wp2_with fail
   have hne:=bw_some wr
   refine wp_region_quiet_below hmx (by kernel_rfl) ?_
   repeat (go_big_quiet_step (refine bw_of (HL.out _)))
   refine wpQuiet_nil ?_
   intro _ hw'
   obtain ⟨⟨W7,hW7⟩,hw''⟩:=hw'
   subst hw''
   have HB7:=Hid.intro (k_trans HB.out hW7)
   have HX7:=Hid.intro ((hW7.block w.heap.size hz).trans HX.out)
   clear y0 y1 y2 y3 y4 b0 b1 b2 b3 b4 hW7
   cases h1:meetsB y x with
   | false =>
    have HF:=Hid.intro (HN.out h1)
    clear HH HN HA h1
    go_wp2
    go_roundw
    case rel=>exact ⟨k+1,by omega,by go_num,HF,HB7,HX7⟩
    case measure=>simp [intOf];omega
   | true =>
    have HF:=Hid.intro (HH.out h1)
    clear HH HN HA h1
    go_wp2
    go_ret
    exact ⟨retB HF.out.symm,HB7.out⟩
  ·obtain rfl:k=gs.length:=by omega
   have HF:=Hid.intro (freeG_all HA.out)
   clear HA
   go_wp2
   go_ret
   exact ⟨retB HF.out.symm,HB.out⟩
end Go.Proofs.YtcbibdhlkdcmiafGreat
namespace Go.Proofs.YtcbibdhlkdcmiafGreat
open Go.RowKit

def brdOkB (a b:Int):Bool:=decide ((a=0∨a=4)∧b=0∨(1≤a∧a≤3)∧1≤b∧b≤3)
theorem brd_zero (b:Int):brdOkB 0 b=(b == 0):=by rw [Bool.eq_iff_iff];simp [brdOkB]
theorem brd_four (b:Int):brdOkB 4 b=(b == 0):=by rw [Bool.eq_iff_iff];simp [brdOkB];
theorem brd_seen {a:Int} (b:Int) (h1:1≤a) (h2:a≤3):brdOkB a b=inB b 1 3:=by rw [Bool.eq_iff_iff];simp [brdOkB,inB];omega
theorem brd_other {a:Int} (b:Int) (h0:a ≠ 0) (h4:a ≠ 4) (h:¬ (1≤a∧a≤3)):brdOkB a b=false:=by simp [brdOkB];omega
end Go.Proofs.YtcbibdhlkdcmiafGreat
namespace Go.Proofs.YtcbibdhlkdcmiafGreat
open Go.RowKit

def cellOkB (s:ByteArray) (c r a1 b1 a2 b2 a3 b3 a4 b4:Int):Bool:=txtOkB s && (inB c 1 4 && (inB r 1 4 && (brdOkB a1 b1 && (brdOkB a2 b2 && (brdOkB a3 b3 && brdOkB a4 b4)))))
theorem Hid.mk {p:Prop} (h:p):Hid p:=h
end Go.Proofs.YtcbibdhlkdcmiafGreat
