/-
  No cell of these rows narrows 'for every input' (looked for: loops, veiled, ifaces, maps, wideKeys, modest, calm, conditions, laid).
  DERIVED. THE GIVEN ROWS OF THIS SEAT. 5 by the template 'for every input the law returns true; each argument reads behind the call as it read before'; 0 by the template 'total and deterministic' (their statements: YtfkfgmfahoeaoasTotals.lean).
  GIVEN WITH THE SEED: the statements are not yours to turn. If you find one false, say at which input.
  Laid BY PROGRAM, IN A SANDBOX (cutbox-rows.mjs): the forced cells as the released guide's own fill.sh prints them over the translation 9bd19c3a683a2bee… (all of the seat's roots in one cut). By AI agents, Wed Nov 11 2026. No macro, syntax, notation, axiom, sorry.
-/
import Derived.Test.YtfkfgmfahoeaoasChecked
import GoSem.Claim
import GoSem.ClaimJoined
import GoSem.ClaimMapViews
import Derived.JoinedTies
import Derived.KernelRfl
namespace Go.Proofs.Ytfkfgmfahoeaoas
/- THE CELL 'sum', in the pinned program and in every row, IS THE sha256 OF THE DUMP (.gsa) THAT YtfkfgmfahoeaoasProg.lean LOADS. Nothing in Lean hashes anything: it is a label: what it is worth is what the hold of that sum in a sandbox is worth. -/
noncomputable def Try.pinned : Pinned := { name := "ytfkfgmfahoeaoas", sum := "9bd19c3a683a2bee56258e5e647066fb8e4f5c024f22d6932ca7a75096485214", checked := Try.checked }
namespace Rows
def none {H : Type} : Left H := { results := [], args := [] }

/-- 'laws.FnExactTblPart': WHATEVER THE INPUT: true; the input reads as it did. -/
def fnExactTblPartSpec : ChangeSpec := { name := "fnExactTblPart", fn := fun _ => fun
  | [d1, d2] => { results := [.lit (.bool true)], args := [d1, d2] }
  | _ => none }
def fnExactTblPartRow : OpenClaim := { program := "ytfkfgmfahoeaoas", sum := "9bd19c3a683a2bee56258e5e647066fb8e4f5c024f22d6932ca7a75096485214", func := "loop.example/panework/laws.FnExactTblPart", spec := "fnExactTblPart", unfollowed := true, recurses := true, plainKeys := false, apart := false }
def FnExactTblPartSaid : Prop := fnExactTblPartRow.holds Try.pinned (OpenSpec.ofChange fnExactTblPartSpec)

/-- ITS FALSE NEIGHBOUR: 'it returns false'. Refute it at one input. -/
def fnExactTblPartWrong : ChangeSpec := { name := "fnExactTblPart", fn := fun _ => fun
  | [d1, d2] => { results := [.lit (.bool false)], args := [d1, d2] }
  | _ => none }
def FnExactTblPartWrongFalsely : Prop := fnExactTblPartRow.holds Try.pinned (OpenSpec.ofChange fnExactTblPartWrong)

/-- 'laws.FnExactTblCells': WHATEVER THE INPUT: true; the input reads as it did. -/
def fnExactTblCellsSpec : ChangeSpec := { name := "fnExactTblCells", fn := fun _ => fun
  | [d] => { results := [.lit (.bool true)], args := [d] }
  | _ => none }
def fnExactTblCellsRow : OpenClaim := { program := "ytfkfgmfahoeaoas", sum := "9bd19c3a683a2bee56258e5e647066fb8e4f5c024f22d6932ca7a75096485214", func := "loop.example/panework/laws.FnExactTblCells", spec := "fnExactTblCells", plainKeys := false, apart := false }
def FnExactTblCellsSaid : Prop := fnExactTblCellsRow.holds Try.pinned (OpenSpec.ofChange fnExactTblCellsSpec)

/-- ITS FALSE NEIGHBOUR: 'it returns false'. Refute it at one input. -/
def fnExactTblCellsWrong : ChangeSpec := { name := "fnExactTblCells", fn := fun _ => fun
  | [d] => { results := [.lit (.bool false)], args := [d] }
  | _ => none }
def FnExactTblCellsWrongFalsely : Prop := fnExactTblCellsRow.holds Try.pinned (OpenSpec.ofChange fnExactTblCellsWrong)

/-- 'laws.FnExactBrdRead': WHATEVER THE INPUT: true; the input reads as it did. -/
def fnExactBrdReadSpec : ChangeSpec := { name := "fnExactBrdRead", fn := fun _ => fun
  | [d] => { results := [.lit (.bool true)], args := [d] }
  | _ => none }
def fnExactBrdReadRow : OpenClaim := { program := "ytfkfgmfahoeaoas", sum := "9bd19c3a683a2bee56258e5e647066fb8e4f5c024f22d6932ca7a75096485214", func := "loop.example/panework/laws.FnExactBrdRead", spec := "fnExactBrdRead", plainKeys := false, apart := false }
def FnExactBrdReadSaid : Prop := fnExactBrdReadRow.holds Try.pinned (OpenSpec.ofChange fnExactBrdReadSpec)

/-- ITS FALSE NEIGHBOUR: 'it returns false'. Refute it at one input. -/
def fnExactBrdReadWrong : ChangeSpec := { name := "fnExactBrdRead", fn := fun _ => fun
  | [d] => { results := [.lit (.bool false)], args := [d] }
  | _ => none }
def FnExactBrdReadWrongFalsely : Prop := fnExactBrdReadRow.holds Try.pinned (OpenSpec.ofChange fnExactBrdReadWrong)

/-- 'laws.FnExactGrdOf': WHATEVER THE INPUT: true; the input reads as it did. -/
def fnExactGrdOfSpec : ChangeSpec := { name := "fnExactGrdOf", fn := fun _ => fun
  | [d] => { results := [.lit (.bool true)], args := [d] }
  | _ => none }
def fnExactGrdOfRow : OpenClaim := { program := "ytfkfgmfahoeaoas", sum := "9bd19c3a683a2bee56258e5e647066fb8e4f5c024f22d6932ca7a75096485214", func := "loop.example/panework/laws.FnExactGrdOf", spec := "fnExactGrdOf", unfollowed := true, recurses := true, plainKeys := false, apart := false }
def FnExactGrdOfSaid : Prop := fnExactGrdOfRow.holds Try.pinned (OpenSpec.ofChange fnExactGrdOfSpec)

/-- ITS FALSE NEIGHBOUR: 'it returns false'. Refute it at one input. -/
def fnExactGrdOfWrong : ChangeSpec := { name := "fnExactGrdOf", fn := fun _ => fun
  | [d] => { results := [.lit (.bool false)], args := [d] }
  | _ => none }
def FnExactGrdOfWrongFalsely : Prop := fnExactGrdOfRow.holds Try.pinned (OpenSpec.ofChange fnExactGrdOfWrong)

/-- 'laws.FnExactGrdOk': WHATEVER THE INPUT: true; the input reads as it did. -/
def fnExactGrdOkSpec : ChangeSpec := { name := "fnExactGrdOk", fn := fun _ => fun
  | [d] => { results := [.lit (.bool true)], args := [d] }
  | _ => none }
def fnExactGrdOkRow : OpenClaim := { program := "ytfkfgmfahoeaoas", sum := "9bd19c3a683a2bee56258e5e647066fb8e4f5c024f22d6932ca7a75096485214", func := "loop.example/panework/laws.FnExactGrdOk", spec := "fnExactGrdOk", unfollowed := true, recurses := true, plainKeys := false, apart := false }
def FnExactGrdOkSaid : Prop := fnExactGrdOkRow.holds Try.pinned (OpenSpec.ofChange fnExactGrdOkSpec)

/-- ITS FALSE NEIGHBOUR: 'it returns false'. Refute it at one input. -/
def fnExactGrdOkWrong : ChangeSpec := { name := "fnExactGrdOk", fn := fun _ => fun
  | [d] => { results := [.lit (.bool false)], args := [d] }
  | _ => none }
def FnExactGrdOkWrongFalsely : Prop := fnExactGrdOkRow.holds Try.pinned (OpenSpec.ofChange fnExactGrdOkWrong)

/- THE SECOND FORM. 'bulk': how many values and letters a reading holds, each counted each time it is reached (what is shared counts as often as it is met; a slice's spare places count too). A statement '..UptoSaid' is the law's where the arguments, and the package variables that the reading takes, are together of bulk at most 1048576: NARROWER than '..Said'. Prove '..Said' where nothing that the law and all that it calls make is longer than what came in: it says more and counts as full. Else prove '..UptoSaid'. A law counts once. -/
mutual
def uptoBulk {H : Type} : DataW H → Nat
  | .lit (.string bytes) => bytes.length + 1
  | .lit _ => 1
  | .nil => 1
  | .ptr d => uptoBulk d + 1
  | .slice elems spare => uptoBulkAll elems + uptoBulkAll spare + 1
  | .agg parts => uptoBulkAll parts + 1
  | .iface _ d => uptoBulk d + 1
  | .map entries => uptoBulkEntries entries + 1
  | .held _ => 1
def uptoBulkAll {H : Type} : List (DataW H) → Nat
  | [] => 0
  | d :: r => uptoBulk d + uptoBulkAll r
def uptoBulkEntries {H : Type} : List (Lit × DataW H) → Nat
  | [] => 0
  | x :: r => uptoBulkEntry x + uptoBulkEntries r
def uptoBulkEntry {H : Type} : Lit × DataW H → Nat
  | (.string bytes, d) => bytes.length + uptoBulk d + 1
  | (_, d) => uptoBulk d + 1
 end
def uptoSmall : (H : Type) → List (DataW H) → Bool := fun _ ds => decide (uptoBulkAll ds ≤ 1048576)
def OpenSpec.upto (s : _root_.Go.ChangeSpec) : _root_.Go.OpenSpec := { _root_.Go.OpenSpec.ofChange s with cond := some uptoSmall }

/-- 'laws.FnExactTblPart', WHERE WHAT IT READS IS OF BULK AT MOST 1048576: true; the input reads as it did. -/
def fnExactTblPartUptoRow : OpenClaim := { program := "ytfkfgmfahoeaoas", sum := "9bd19c3a683a2bee56258e5e647066fb8e4f5c024f22d6932ca7a75096485214", func := "loop.example/panework/laws.FnExactTblPart", spec := "fnExactTblPart", unfollowed := true, recurses := true, plainKeys := false, apart := false, narrowed := true }
def FnExactTblPartUptoSaid : Prop := fnExactTblPartUptoRow.holds Try.pinned (OpenSpec.upto fnExactTblPartSpec)

/-- 'laws.FnExactTblCells', WHERE WHAT IT READS IS OF BULK AT MOST 1048576: true; the input reads as it did. -/
def fnExactTblCellsUptoRow : OpenClaim := { program := "ytfkfgmfahoeaoas", sum := "9bd19c3a683a2bee56258e5e647066fb8e4f5c024f22d6932ca7a75096485214", func := "loop.example/panework/laws.FnExactTblCells", spec := "fnExactTblCells", plainKeys := false, apart := false, narrowed := true }
def FnExactTblCellsUptoSaid : Prop := fnExactTblCellsUptoRow.holds Try.pinned (OpenSpec.upto fnExactTblCellsSpec)

/-- 'laws.FnExactBrdRead', WHERE WHAT IT READS IS OF BULK AT MOST 1048576: true; the input reads as it did. -/
def fnExactBrdReadUptoRow : OpenClaim := { program := "ytfkfgmfahoeaoas", sum := "9bd19c3a683a2bee56258e5e647066fb8e4f5c024f22d6932ca7a75096485214", func := "loop.example/panework/laws.FnExactBrdRead", spec := "fnExactBrdRead", plainKeys := false, apart := false, narrowed := true }
def FnExactBrdReadUptoSaid : Prop := fnExactBrdReadUptoRow.holds Try.pinned (OpenSpec.upto fnExactBrdReadSpec)

/-- 'laws.FnExactGrdOf', WHERE WHAT IT READS IS OF BULK AT MOST 1048576: true; the input reads as it did. -/
def fnExactGrdOfUptoRow : OpenClaim := { program := "ytfkfgmfahoeaoas", sum := "9bd19c3a683a2bee56258e5e647066fb8e4f5c024f22d6932ca7a75096485214", func := "loop.example/panework/laws.FnExactGrdOf", spec := "fnExactGrdOf", unfollowed := true, recurses := true, plainKeys := false, apart := false, narrowed := true }
def FnExactGrdOfUptoSaid : Prop := fnExactGrdOfUptoRow.holds Try.pinned (OpenSpec.upto fnExactGrdOfSpec)

/-- 'laws.FnExactGrdOk', WHERE WHAT IT READS IS OF BULK AT MOST 1048576: true; the input reads as it did. -/
def fnExactGrdOkUptoRow : OpenClaim := { program := "ytfkfgmfahoeaoas", sum := "9bd19c3a683a2bee56258e5e647066fb8e4f5c024f22d6932ca7a75096485214", func := "loop.example/panework/laws.FnExactGrdOk", spec := "fnExactGrdOk", unfollowed := true, recurses := true, plainKeys := false, apart := false, narrowed := true }
def FnExactGrdOkUptoSaid : Prop := fnExactGrdOkUptoRow.holds Try.pinned (OpenSpec.upto fnExactGrdOkSpec)

end Rows
end Go.Proofs.Ytfkfgmfahoeaoas
