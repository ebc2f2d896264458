/-
  DERIVED. GIVEN WITH THE SEED: THE CARDS: each row of YtggmjiddadjilasDoorRows.lean that lists a variable, with what it lists TIED to the program's text (the seventh form; the later family's looks); each row that meets fmt, with fmt's text TOLD by the authors' own Lean function (tested against real Go, not proved from fmt's source: count such statements apart). THE CARD IS WHAT COUNTS. Prove the row's statement (the work); the ties are given (YtggmjiddadjilasDoorTie.lean); close each card by the builder's one call (the guide's Derived/Test/ToyasCard.lean, 'card_holds'). Laid BY PROGRAM, IN A SANDBOX (cutbox-door.mjs). By AI agents, Wed Nov 11 2026. No macro, syntax, notation, axiom, sorry.
-/
import Derived.Test.YtggmjiddadjilasDoorRows
import GoSem.ClaimSeven
namespace Go.Proofs.YtggmjiddadjilasDoor
namespace Rows

/-- THE TIED CARD OF 'laws.FnExactBrdText'. -/
def fnExactBrdTextCard : Claim7 := { stood := { row := fnExactBrdTextRow, standIns := [], harness := (true, "e8d529f1e1fba51b1eaaea41725384b7aa6acd3c3e0c2c24b1633be1503a709a"), looks := false }, kinds := [], alts := [], laidByText := true, laidKinds := [.data, .data, .data], laidTests := true, laidLooks := .later }
def FnExactBrdTextCardSaid : Prop := Claim7.holds Tryd.pinned (.plain (OpenSpec.ofChange fnExactBrdTextSpec)) fnExactBrdTextCard

/-- THE SECOND FORM's CARD OF 'laws.FnExactBrdText'. -/
def fnExactBrdTextUptoCard : Claim7 := { stood := { row := fnExactBrdTextUptoRow, standIns := [], harness := (true, "e8d529f1e1fba51b1eaaea41725384b7aa6acd3c3e0c2c24b1633be1503a709a"), looks := false }, kinds := [], alts := [], laidByText := true, laidKinds := [.data, .data, .data], laidTests := true, laidLooks := .later }
def FnExactBrdTextUptoCardSaid : Prop := Claim7.holds Tryd.pinned (.plain (OpenSpec.upto fnExactBrdTextSpec)) fnExactBrdTextUptoCard
end Rows
end Go.Proofs.YtggmjiddadjilasDoor
