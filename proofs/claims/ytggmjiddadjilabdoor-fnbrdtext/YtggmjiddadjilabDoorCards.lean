/-
  DERIVED. GIVEN WITH THE SEED: THE CARDS: each row of YtggmjiddadjilabDoorRows.lean that lists a variable, with what it lists TIED to the program's text (the seventh form; the later family's looks); each row that meets fmt, with fmt's text TOLD by the authors' own Lean function (tested against real Go, not proved from fmt's source: count such statements apart). THE CARD IS WHAT COUNTS. Prove the row's statement (the work); the ties are given (YtggmjiddadjilabDoorTie.lean); close each card by the builder's one call (the guide's Derived/Test/ToyasCard.lean, 'card_holds'). Laid BY PROGRAM, IN A SANDBOX (cutbox-door.mjs). By AI agents, Wed Nov 11 2026. No macro, syntax, notation, axiom, sorry.
-/
import Derived.Test.YtggmjiddadjilabDoorRows
import GoSem.ClaimSeven
namespace Go.Proofs.YtggmjiddadjilabDoor
namespace Rows

/-- THE TIED CARD OF 'laws.FnBrdText'. -/
def fnBrdTextCard : Claim7 := { stood := { row := fnBrdTextRow, standIns := [], harness := (true, "7fb782b1ef834af417856ae27e32d71deb892dd399a444cc8218fe3109ee9c72"), looks := true }, kinds := [], alts := [], laidByText := true, laidKinds := [.data, .data, .data], laidTests := true, laidLooks := .later }
def FnBrdTextCardSaid : Prop := Claim7.holds Tryd.pinned (.plain (OpenSpec.ofChange fnBrdTextSpec)) fnBrdTextCard

/-- THE TIED CARD OF 'laws.FnCellText'. -/
def fnCellTextCard : Claim7 := { stood := { row := fnCellTextRow, standIns := [], harness := (true, "7fb782b1ef834af417856ae27e32d71deb892dd399a444cc8218fe3109ee9c72"), looks := true }, kinds := [], alts := [], laidByText := true, laidKinds := [.data, .data, .data, .data, .sentinel, .sentinel, .pinned], laidTests := true, laidLooks := .later }
def FnCellTextCardSaid : Prop := Claim7.holds Tryd.pinned (.plain (OpenSpec.ofChange fnCellTextSpec)) fnCellTextCard

/-- THE SECOND FORM's CARD OF 'laws.FnBrdText'. -/
def fnBrdTextUptoCard : Claim7 := { stood := { row := fnBrdTextUptoRow, standIns := [], harness := (true, "7fb782b1ef834af417856ae27e32d71deb892dd399a444cc8218fe3109ee9c72"), looks := true }, kinds := [], alts := [], laidByText := true, laidKinds := [.data, .data, .data], laidTests := true, laidLooks := .later }
def FnBrdTextUptoCardSaid : Prop := Claim7.holds Tryd.pinned (.plain (OpenSpec.upto fnBrdTextSpec)) fnBrdTextUptoCard

/-- THE SECOND FORM's CARD OF 'laws.FnCellText'. -/
def fnCellTextUptoCard : Claim7 := { stood := { row := fnCellTextUptoRow, standIns := [], harness := (true, "7fb782b1ef834af417856ae27e32d71deb892dd399a444cc8218fe3109ee9c72"), looks := true }, kinds := [], alts := [], laidByText := true, laidKinds := [.data, .data, .data, .data, .sentinel, .sentinel, .pinned], laidTests := true, laidLooks := .later }
def FnCellTextUptoCardSaid : Prop := Claim7.holds Tryd.pinned (.plain (OpenSpec.upto fnCellTextSpec)) fnCellTextUptoCard
end Rows
end Go.Proofs.YtggmjiddadjilabDoor
