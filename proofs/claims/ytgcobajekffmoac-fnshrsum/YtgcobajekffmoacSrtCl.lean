/-
  PROVED HERE: what a claim is, its three cells, and how two are held against each other.
-/
import Derived.Test.YtgcobajekffmoacMem
import Derived.Shelf.SlSortCmp.KitK
namespace Go.Proofs.Ytgcobajekffmoac
open Go.RowKit Go.Shelf Go.Lib Go.Sort

/-- a claim: its place, what is whole of it, what is left over -/
structure Cl where
  p : Int
  w : Int
  o : Int
deriving Inhabited
def encC (x : Cl) : List Value := [.int .i64 x.p, .int .i64 x.w, .int .i64 x.o]
/-- the one of whom most is left over comes first -/
def cfC (x y : Cl) : Int := if y.o < x.o then -1 else if x.o < y.o then 1 else 0
theorem encC_len (x : Cl) : (encC x).length = 3 := rfl
theorem encC_one (x : Cl) : ∀ v ∈ encC x, v.oneCell' = true := fun v hv => by simp [encC] at hv; rcases hv with rfl | rfl | rfl <;> rfl
end Go.Proofs.Ytgcobajekffmoac
