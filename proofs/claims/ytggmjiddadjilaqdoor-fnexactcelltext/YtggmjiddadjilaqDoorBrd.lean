/-
  PROVED HERE: both texts on BrdOk.
-/
import Derived.Test.YtggmjiddadjilaqDoorBrdI
import Derived.Test.YtggmjiddadjilaqDoorBrdS
namespace Go.Proofs.YtggmjiddadjilaqDoor
open Go.RowKit


end Go.Proofs.YtggmjiddadjilaqDoor
