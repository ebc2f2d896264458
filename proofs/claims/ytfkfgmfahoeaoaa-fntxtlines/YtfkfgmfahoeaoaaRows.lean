/-
  No cell of these rows narrows 'for every input' (looked for: loops, veiled, ifaces, maps, wideKeys, modest, calm, conditions, laid).
  DERIVED. THE GIVEN ROWS OF THIS SEAT. 6 by the template 'for every input the law returns true; each argument reads behind the call as it read before'; 0 by the template 'total and deterministic' (their statements: YtfkfgmfahoeaoaaTotals.lean).
  GIVEN WITH THE SEED: the statements are not yours to turn. If you find one false, say at which input.
  Laid BY PROGRAM, IN A SANDBOX (cutbox-rows.mjs): the forced cells as the released guide's own fill.sh prints them over the translation d2d7e2960b9744ec… (all of the seat's roots in one cut). By AI agents, Wed Nov 11 2026. No macro, syntax, notation, axiom, sorry.
-/
import Derived.Test.YtfkfgmfahoeaoaaChecked
import GoSem.Claim
import GoSem.ClaimJoined
import GoSem.ClaimMapViews
import Derived.JoinedTies
import Derived.KernelRfl
namespace Go.Proofs.Ytfkfgmfahoeaoaa
/- THE CELL 'sum', in the pinned program and in every row, IS THE sha256 OF THE DUMP (.gsa) THAT YtfkfgmfahoeaoaaProg.lean LOADS. Nothing in Lean hashes anything: it is a label: what it is worth is what the hold of that sum in a sandbox is worth. -/
noncomputable def Try.pinned : Pinned := { name := "ytfkfgmfahoeaoaa", sum := "d2d7e2960b9744ecdad8a2fd9251253082e1dd72a69fd5db82745e78327d5357", checked := Try.checked }
namespace Rows
def none {H : Type} : Left H := { results := [], args := [] }

/-- 'laws.FnTxtWords': WHATEVER THE INPUT: true; the input reads as it did. -/
def fnTxtWordsSpec : ChangeSpec := { name := "fnTxtWords", fn := fun _ => fun
  | [d] => { results := [.lit (.bool true)], args := [d] }
  | _ => none }
def fnTxtWordsRow : OpenClaim := { program := "ytfkfgmfahoeaoaa", sum := "d2d7e2960b9744ecdad8a2fd9251253082e1dd72a69fd5db82745e78327d5357", func := "loop.example/panework/laws.FnTxtWords", spec := "fnTxtWords", inPlace := ["internal/abi.NoEscape"], unfollowed := true, recurses := true, apart := false }
def FnTxtWordsSaid : Prop := fnTxtWordsRow.holds Try.pinned (OpenSpec.ofChange fnTxtWordsSpec)

/-- ITS FALSE NEIGHBOUR: 'it returns false'. Refute it at one input. -/
def fnTxtWordsWrong : ChangeSpec := { name := "fnTxtWords", fn := fun _ => fun
  | [d] => { results := [.lit (.bool false)], args := [d] }
  | _ => none }
def FnTxtWordsWrongFalsely : Prop := fnTxtWordsRow.holds Try.pinned (OpenSpec.ofChange fnTxtWordsWrong)

/-- 'laws.FnTxtJoin': WHATEVER THE INPUT: true; the input reads as it did. -/
def fnTxtJoinSpec : ChangeSpec := { name := "fnTxtJoin", fn := fun _ => fun
  | [d] => { results := [.lit (.bool true)], args := [d] }
  | _ => none }
def fnTxtJoinRow : OpenClaim := { program := "ytfkfgmfahoeaoaa", sum := "d2d7e2960b9744ecdad8a2fd9251253082e1dd72a69fd5db82745e78327d5357", func := "loop.example/panework/laws.FnTxtJoin", spec := "fnTxtJoin", inPlace := ["internal/abi.NoEscape"], apart := false }
def FnTxtJoinSaid : Prop := fnTxtJoinRow.holds Try.pinned (OpenSpec.ofChange fnTxtJoinSpec)

/-- ITS FALSE NEIGHBOUR: 'it returns false'. Refute it at one input. -/
def fnTxtJoinWrong : ChangeSpec := { name := "fnTxtJoin", fn := fun _ => fun
  | [d] => { results := [.lit (.bool false)], args := [d] }
  | _ => none }
def FnTxtJoinWrongFalsely : Prop := fnTxtJoinRow.holds Try.pinned (OpenSpec.ofChange fnTxtJoinWrong)

/-- 'laws.FnTxtLines': WHATEVER THE INPUT: true; the input reads as it did. -/
def fnTxtLinesSpec : ChangeSpec := { name := "fnTxtLines", fn := fun _ => fun
  | [d] => { results := [.lit (.bool true)], args := [d] }
  | _ => none }
def fnTxtLinesRow : OpenClaim := { program := "ytfkfgmfahoeaoaa", sum := "d2d7e2960b9744ecdad8a2fd9251253082e1dd72a69fd5db82745e78327d5357", func := "loop.example/panework/laws.FnTxtLines", spec := "fnTxtLines", inPlace := ["internal/abi.NoEscape"], unfollowed := true, recurses := true, apart := false }
def FnTxtLinesSaid : Prop := fnTxtLinesRow.holds Try.pinned (OpenSpec.ofChange fnTxtLinesSpec)

/-- ITS FALSE NEIGHBOUR: 'it returns false'. Refute it at one input. -/
def fnTxtLinesWrong : ChangeSpec := { name := "fnTxtLines", fn := fun _ => fun
  | [d] => { results := [.lit (.bool false)], args := [d] }
  | _ => none }
def FnTxtLinesWrongFalsely : Prop := fnTxtLinesRow.holds Try.pinned (OpenSpec.ofChange fnTxtLinesWrong)

/-- 'laws.FnTxtGreedy': WHATEVER THE INPUT: true; the input reads as it did. -/
def fnTxtGreedySpec : ChangeSpec := { name := "fnTxtGreedy", fn := fun _ => fun
  | [d] => { results := [.lit (.bool true)], args := [d] }
  | _ => none }
def fnTxtGreedyRow : OpenClaim := { program := "ytfkfgmfahoeaoaa", sum := "d2d7e2960b9744ecdad8a2fd9251253082e1dd72a69fd5db82745e78327d5357", func := "loop.example/panework/laws.FnTxtGreedy", spec := "fnTxtGreedy", inPlace := ["internal/abi.NoEscape"], unfollowed := true, recurses := true, apart := false }
def FnTxtGreedySaid : Prop := fnTxtGreedyRow.holds Try.pinned (OpenSpec.ofChange fnTxtGreedySpec)

/-- ITS FALSE NEIGHBOUR: 'it returns false'. Refute it at one input. -/
def fnTxtGreedyWrong : ChangeSpec := { name := "fnTxtGreedy", fn := fun _ => fun
  | [d] => { results := [.lit (.bool false)], args := [d] }
  | _ => none }
def FnTxtGreedyWrongFalsely : Prop := fnTxtGreedyRow.holds Try.pinned (OpenSpec.ofChange fnTxtGreedyWrong)

/-- 'laws.FnTxtWider': WHATEVER THE INPUT: true; the input reads as it did. -/
def fnTxtWiderSpec : ChangeSpec := { name := "fnTxtWider", fn := fun _ => fun
  | [d] => { results := [.lit (.bool true)], args := [d] }
  | _ => none }
def fnTxtWiderRow : OpenClaim := { program := "ytfkfgmfahoeaoaa", sum := "d2d7e2960b9744ecdad8a2fd9251253082e1dd72a69fd5db82745e78327d5357", func := "loop.example/panework/laws.FnTxtWider", spec := "fnTxtWider", inPlace := ["internal/abi.NoEscape"], unfollowed := true, recurses := true, apart := false }
def FnTxtWiderSaid : Prop := fnTxtWiderRow.holds Try.pinned (OpenSpec.ofChange fnTxtWiderSpec)

/-- ITS FALSE NEIGHBOUR: 'it returns false'. Refute it at one input. -/
def fnTxtWiderWrong : ChangeSpec := { name := "fnTxtWider", fn := fun _ => fun
  | [d] => { results := [.lit (.bool false)], args := [d] }
  | _ => none }
def FnTxtWiderWrongFalsely : Prop := fnTxtWiderRow.holds Try.pinned (OpenSpec.ofChange fnTxtWiderWrong)

/-- 'laws.FnTxtLeast': WHATEVER THE INPUT: true; the input reads as it did. -/
def fnTxtLeastSpec : ChangeSpec := { name := "fnTxtLeast", fn := fun _ => fun
  | [d] => { results := [.lit (.bool true)], args := [d] }
  | _ => none }
def fnTxtLeastRow : OpenClaim := { program := "ytfkfgmfahoeaoaa", sum := "d2d7e2960b9744ecdad8a2fd9251253082e1dd72a69fd5db82745e78327d5357", func := "loop.example/panework/laws.FnTxtLeast", spec := "fnTxtLeast", unfollowed := true, recurses := true, apart := false }
def FnTxtLeastSaid : Prop := fnTxtLeastRow.holds Try.pinned (OpenSpec.ofChange fnTxtLeastSpec)

/-- ITS FALSE NEIGHBOUR: 'it returns false'. Refute it at one input. -/
def fnTxtLeastWrong : ChangeSpec := { name := "fnTxtLeast", fn := fun _ => fun
  | [d] => { results := [.lit (.bool false)], args := [d] }
  | _ => none }
def FnTxtLeastWrongFalsely : Prop := fnTxtLeastRow.holds Try.pinned (OpenSpec.ofChange fnTxtLeastWrong)

/- THE SECOND FORM. 'bulk': how many values and letters a reading holds, each counted each time it is reached (what is shared counts as often as it is met; a slice's spare places count too). A statement '..UptoSaid' is the law's where the arguments, and the package variables that the reading takes, are together of bulk at most 1048576: NARROWER than '..Said'. Prove '..Said' where nothing that the law and all that it calls make is longer than what came in: it says more and counts as full. Else prove '..UptoSaid'. A law counts once. -/
mutual
def uptoBulk {H : Type} : DataW H → Nat
  | .lit (.string bytes) => bytes.length + 1
  | .lit _ => 1
  | .nil => 1
  | .ptr d => uptoBulk d + 1
  | .slice elems spare => uptoBulkAll elems + uptoBulkAll spare + 1
  | .agg parts => uptoBulkAll parts + 1
  | .iface _ d => uptoBulk d + 1
  | .map entries => uptoBulkEntries entries + 1
  | .held _ => 1
def uptoBulkAll {H : Type} : List (DataW H) → Nat
  | [] => 0
  | d :: r => uptoBulk d + uptoBulkAll r
def uptoBulkEntries {H : Type} : List (Lit × DataW H) → Nat
  | [] => 0
  | x :: r => uptoBulkEntry x + uptoBulkEntries r
def uptoBulkEntry {H : Type} : Lit × DataW H → Nat
  | (.string bytes, d) => bytes.length + uptoBulk d + 1
  | (_, d) => uptoBulk d + 1
 end
def uptoSmall : (H : Type) → List (DataW H) → Bool := fun _ ds => decide (uptoBulkAll ds ≤ 1048576)
def OpenSpec.upto (s : _root_.Go.ChangeSpec) : _root_.Go.OpenSpec := { _root_.Go.OpenSpec.ofChange s with cond := some uptoSmall }

/-- 'laws.FnTxtWords', WHERE WHAT IT READS IS OF BULK AT MOST 1048576: true; the input reads as it did. -/
def fnTxtWordsUptoRow : OpenClaim := { program := "ytfkfgmfahoeaoaa", sum := "d2d7e2960b9744ecdad8a2fd9251253082e1dd72a69fd5db82745e78327d5357", func := "loop.example/panework/laws.FnTxtWords", spec := "fnTxtWords", inPlace := ["internal/abi.NoEscape"], unfollowed := true, recurses := true, apart := false, narrowed := true }
def FnTxtWordsUptoSaid : Prop := fnTxtWordsUptoRow.holds Try.pinned (OpenSpec.upto fnTxtWordsSpec)

/-- 'laws.FnTxtJoin', WHERE WHAT IT READS IS OF BULK AT MOST 1048576: true; the input reads as it did. -/
def fnTxtJoinUptoRow : OpenClaim := { program := "ytfkfgmfahoeaoaa", sum := "d2d7e2960b9744ecdad8a2fd9251253082e1dd72a69fd5db82745e78327d5357", func := "loop.example/panework/laws.FnTxtJoin", spec := "fnTxtJoin", inPlace := ["internal/abi.NoEscape"], apart := false, narrowed := true }
def FnTxtJoinUptoSaid : Prop := fnTxtJoinUptoRow.holds Try.pinned (OpenSpec.upto fnTxtJoinSpec)

/-- 'laws.FnTxtLines', WHERE WHAT IT READS IS OF BULK AT MOST 1048576: true; the input reads as it did. -/
def fnTxtLinesUptoRow : OpenClaim := { program := "ytfkfgmfahoeaoaa", sum := "d2d7e2960b9744ecdad8a2fd9251253082e1dd72a69fd5db82745e78327d5357", func := "loop.example/panework/laws.FnTxtLines", spec := "fnTxtLines", inPlace := ["internal/abi.NoEscape"], unfollowed := true, recurses := true, apart := false, narrowed := true }
def FnTxtLinesUptoSaid : Prop := fnTxtLinesUptoRow.holds Try.pinned (OpenSpec.upto fnTxtLinesSpec)

/-- 'laws.FnTxtGreedy', WHERE WHAT IT READS IS OF BULK AT MOST 1048576: true; the input reads as it did. -/
def fnTxtGreedyUptoRow : OpenClaim := { program := "ytfkfgmfahoeaoaa", sum := "d2d7e2960b9744ecdad8a2fd9251253082e1dd72a69fd5db82745e78327d5357", func := "loop.example/panework/laws.FnTxtGreedy", spec := "fnTxtGreedy", inPlace := ["internal/abi.NoEscape"], unfollowed := true, recurses := true, apart := false, narrowed := true }
def FnTxtGreedyUptoSaid : Prop := fnTxtGreedyUptoRow.holds Try.pinned (OpenSpec.upto fnTxtGreedySpec)

/-- 'laws.FnTxtWider', WHERE WHAT IT READS IS OF BULK AT MOST 1048576: true; the input reads as it did. -/
def fnTxtWiderUptoRow : OpenClaim := { program := "ytfkfgmfahoeaoaa", sum := "d2d7e2960b9744ecdad8a2fd9251253082e1dd72a69fd5db82745e78327d5357", func := "loop.example/panework/laws.FnTxtWider", spec := "fnTxtWider", inPlace := ["internal/abi.NoEscape"], unfollowed := true, recurses := true, apart := false, narrowed := true }
def FnTxtWiderUptoSaid : Prop := fnTxtWiderUptoRow.holds Try.pinned (OpenSpec.upto fnTxtWiderSpec)

/-- 'laws.FnTxtLeast', WHERE WHAT IT READS IS OF BULK AT MOST 1048576: true; the input reads as it did. -/
def fnTxtLeastUptoRow : OpenClaim := { program := "ytfkfgmfahoeaoaa", sum := "d2d7e2960b9744ecdad8a2fd9251253082e1dd72a69fd5db82745e78327d5357", func := "loop.example/panework/laws.FnTxtLeast", spec := "fnTxtLeast", unfollowed := true, recurses := true, apart := false, narrowed := true }
def FnTxtLeastUptoSaid : Prop := fnTxtLeastUptoRow.holds Try.pinned (OpenSpec.upto fnTxtLeastSpec)

end Rows
end Go.Proofs.Ytfkfgmfahoeaoaa
