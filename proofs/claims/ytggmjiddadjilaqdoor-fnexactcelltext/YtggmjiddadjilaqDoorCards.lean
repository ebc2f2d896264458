/-
  DERIVED. GIVEN WITH THE SEED: THE CARDS: each row of YtggmjiddadjilaqDoorRows.lean that lists a variable, with what it lists TIED to the program's text (the seventh form; the later family's looks); each row that meets fmt, with fmt's text TOLD by the authors' own Lean function (tested against real Go, not proved from fmt's source: count such statements apart). THE CARD IS WHAT COUNTS. Prove the row's statement (the work); the ties are given (YtggmjiddadjilaqDoorTie.lean); close each card by the builder's one call (the guide's Derived/Test/ToyasCard.lean, 'card_holds'). Laid BY PROGRAM, IN A SANDBOX (cutbox-door.mjs). By AI agents, Wed Nov 11 2026. No macro, syntax, notation, axiom, sorry.
-/
import Derived.Test.YtggmjiddadjilaqDoorRows
import GoSem.ClaimSeven
namespace Go.Proofs.YtggmjiddadjilaqDoor
namespace Rows

/-- THE TIED CARD OF 'laws.FnExactCellText'. -/
def fnExactCellTextCard : Claim7 := { stood := { row := fnExactCellTextRow, standIns := [], harness := (true, "044bc1f39ddf0e8598a7847a040000919fa4bbd0cbb047f77ce2d989d0fd2f2e"), looks := true }, kinds := [], alts := [], laidByText := true, laidKinds := [.data, .data, .data], laidTests := true, laidLooks := .later }
def FnExactCellTextCardSaid : Prop := Claim7.holds Tryd.pinned (.plain (OpenSpec.ofChange fnExactCellTextSpec)) fnExactCellTextCard

/-- THE TIED CARD OF 'laws.FnExactCellRead'. -/
def fnExactCellReadCard : Claim7 := { stood := { row := fnExactCellReadRow, standIns := [], harness := (true, "044bc1f39ddf0e8598a7847a040000919fa4bbd0cbb047f77ce2d989d0fd2f2e"), looks := true }, kinds := [], alts := [], laidByText := true, laidKinds := [.data, .data, .data, .data, .sentinel, .sentinel, .pinned], laidTests := true, laidLooks := .later }
def FnExactCellReadCardSaid : Prop := Claim7.holds Tryd.pinned (.plain (OpenSpec.ofChange fnExactCellReadSpec)) fnExactCellReadCard

/-- THE SECOND FORM's CARD OF 'laws.FnExactCellText'. -/
def fnExactCellTextUptoCard : Claim7 := { stood := { row := fnExactCellTextUptoRow, standIns := [], harness := (true, "044bc1f39ddf0e8598a7847a040000919fa4bbd0cbb047f77ce2d989d0fd2f2e"), looks := true }, kinds := [], alts := [], laidByText := true, laidKinds := [.data, .data, .data], laidTests := true, laidLooks := .later }
def FnExactCellTextUptoCardSaid : Prop := Claim7.holds Tryd.pinned (.plain (OpenSpec.upto fnExactCellTextSpec)) fnExactCellTextUptoCard

/-- THE SECOND FORM's CARD OF 'laws.FnExactCellRead'. -/
def fnExactCellReadUptoCard : Claim7 := { stood := { row := fnExactCellReadUptoRow, standIns := [], harness := (true, "044bc1f39ddf0e8598a7847a040000919fa4bbd0cbb047f77ce2d989d0fd2f2e"), looks := true }, kinds := [], alts := [], laidByText := true, laidKinds := [.data, .data, .data, .data, .sentinel, .sentinel, .pinned], laidTests := true, laidLooks := .later }
def FnExactCellReadUptoCardSaid : Prop := Claim7.holds Tryd.pinned (.plain (OpenSpec.upto fnExactCellReadSpec)) fnExactCellReadUptoCard
end Rows
end Go.Proofs.YtggmjiddadjilaqDoor
