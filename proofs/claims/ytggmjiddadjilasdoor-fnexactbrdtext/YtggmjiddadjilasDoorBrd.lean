/-
  PROVED HERE: both texts on BrdOk.
-/
import Derived.Test.YtggmjiddadjilasDoorBrdI
import Derived.Test.YtggmjiddadjilasDoorBrdS
namespace Go.Proofs.YtggmjiddadjilasDoor
open Go.RowKit


end Go.Proofs.YtggmjiddadjilasDoor
