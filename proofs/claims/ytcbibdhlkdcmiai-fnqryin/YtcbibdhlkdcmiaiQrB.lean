/-
  PROVED HERE: whether a place is where something is, as a Bool; nothing of memory.
-/
import Derived.Test.YtcbibdhlkdcmiaiGrdFn
namespace Go.Proofs.Ytcbibdhlkdcmiai
open Go.RowKit

def qinB (X Y W H x y : Int) : Bool := amongB x X W && amongB y Y H
end Go.Proofs.Ytcbibdhlkdcmiai
