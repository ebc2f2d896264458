/-
  PROVED HERE: small facts for loops over an iterator: what a round keeps of a box; a box's cell behind what is laid since. Also: the program's own iterator over the slots of a cell, for every loop that goes over it; nothing that was in memory is turned.
-/
import Derived.Test.YtggmjiddadjilacD1
import Derived.RangeFuncNested
import Derived.RangeFuncBound
import Derived.RangeFuncCalls
import Derived.RangeFuncLeaves
import Derived.Shelf.Abstract
import Derived.Shelf.RegionOpen
import Derived.WalkKit
import Derived.OwnWalkIn
import Derived.TacticsInMore
import Derived.LoopNIn
import Derived.LoopIn
import Derived.RangeFuncFrom
namespace Go.Proofs.Ytggmjiddadjilac
open Go.RowKit Go.Shelf

/-- what a round keeps: the text's own box -/
def BoxK (B:Nat) (W W':World):Prop:=W'.heap[B]?=W.heap[B]?
theorem BoxK.trans {B:Nat} {a b c:World} (h:BoxK B a b) (k:BoxK B b c):BoxK B a c:=Eq.trans k h

end Go.Proofs.Ytggmjiddadjilac
namespace Go.Proofs.Ytggmjiddadjilac
open Go.RowKit Go.Shelf
attribute [local go_sem] Oper.semAt_some

/-- a slot: row and column, neither great -/
abbrev Sl:={ x:Nat × Nat // x.1≤1000∧x.2≤1000 }
def toSl (r c:Nat):Sl:=if h:r≤1000∧c≤1000 then ⟨(r,c),h⟩ else ⟨(0,0),by simp⟩
/-- a slot in memory -/
def slV (x:Nat × Nat):Value:=.agg #[.int .i64 x.1,.int .i64 x.2]
/-- the first so many slots of a row, from a column on -/
def rowSl (r c a:Nat):List Sl:=(List.range a).map fun j=>toSl r (c+j)
/-- the slots of the first so many rows -/
def rowsSl (r c cs d:Nat):List Sl:=(List.range d).flatMap fun i=>rowSl (r+i) c cs
/-- the five numbers of a cell at its place, in memory -/
def gcObj (r c rs cs:Nat) (i:Int):Obj:=.cells #[.int .i64 r,.int .i64 c,.int .i64 rs,.int .i64 cs,.int .i64 i] 35

/-- the cell at its place, as it is handed in -/
def gcV (r c rs cs:Nat) (i:Int):Value:=.agg #[.int .i64 r,.int .i64 c,.int .i64 rs,.int .i64 cs,.int .i64 i]
end Go.Proofs.Ytggmjiddadjilac
