/-
  PROVED HERE: what a cell that is ok is, as a Bool.
-/
import Derived.Test.YtggmjiddadjilaqDoorKit
import Derived.Test.YtggmjiddadjilaqDoorBrdB
import Derived.Test.YtggmjiddadjilaqDoorTxtOk
namespace Go.Proofs.YtggmjiddadjilaqDoor
open Go.RowKit

def cellOkB (s : ByteArray) (c r a1 b1 a2 b2 a3 b3 a4 b4 : Int) : Bool := txtOkB s && (inB c 1 4 && (inB r 1 4 && (brdOkB a1 b1 && (brdOkB a2 b2 && (brdOkB a3 b3 && brdOkB a4 b4)))))
theorem Hid.mk {p : Prop} (h : p) : Hid p := h
end Go.Proofs.YtggmjiddadjilaqDoor
