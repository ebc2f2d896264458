/-
  PROVED HERE: whether a place is where something is, as a Bool; nothing of memory.
-/
import Derived.Test.YtcbibdhlkdcmiaoGrdFn
namespace Go.Proofs.Ytcbibdhlkdcmiao
open Go.RowKit

def qinB (X Y W H x y : Int) : Bool := amongB x X W && amongB y Y H
end Go.Proofs.Ytcbibdhlkdcmiao
