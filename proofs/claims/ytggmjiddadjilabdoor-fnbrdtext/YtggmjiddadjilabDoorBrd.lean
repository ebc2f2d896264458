/-
  PROVED HERE: both texts on BrdOk.
-/
import Derived.Test.YtggmjiddadjilabDoorBrdI
import Derived.Test.YtggmjiddadjilabDoorBrdS
namespace Go.Proofs.YtggmjiddadjilabDoor
open Go.RowKit


end Go.Proofs.YtggmjiddadjilabDoor
