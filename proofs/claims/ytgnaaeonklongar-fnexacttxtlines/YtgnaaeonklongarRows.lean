/-
  No cell of these rows narrows 'for every input' (looked for: loops, veiled, ifaces, maps, wideKeys, modest, calm, conditions, laid).
  DERIVED. THE GIVEN ROWS OF THIS SEAT. 6 by the template 'for every input the law returns true; each argument reads behind the call as it read before'; 0 by the template 'total and deterministic' (their statements: YtgnaaeonklongarTotals.lean).
  GIVEN WITH THE SEED: the statements are not yours to turn. If you find one false, say at which input.
  Laid BY PROGRAM, IN A SANDBOX (cutbox-rows.mjs): the forced cells as the released guide's own fill.sh prints them over the translation bd8b7a12f1295f78… (all of the seat's roots in one cut). By AI agents, Wed Nov 11 2026. No macro, syntax, notation, axiom, sorry.
-/
import Derived.Test.YtgnaaeonklongarChecked
import GoSem.Claim
import GoSem.ClaimJoined
import GoSem.ClaimMapViews
import Derived.JoinedTies
import Derived.KernelRfl
namespace Go.Proofs.Ytgnaaeonklongar
/- THE CELL 'sum', in the pinned program and in every row, IS THE sha256 OF THE DUMP (.gsa) THAT YtgnaaeonklongarProg.lean LOADS. Nothing in Lean hashes anything: it is a label: what it is worth is what the hold of that sum in a sandbox is worth. -/
noncomputable def Try.pinned : Pinned := { name := "ytgnaaeonklongar", sum := "bd8b7a12f1295f78b781820d12ad9ac36a47cc6ef5a8e43b9bea4308e9cac371", checked := Try.checked }
namespace Rows
def none {H : Type} : Left H := { results := [], args := [] }

/-- 'laws.FnExactTxtLines': WHATEVER THE INPUT: true; the input reads as it did. -/
def fnExactTxtLinesSpec : ChangeSpec := { name := "fnExactTxtLines", fn := fun _ => fun
  | [d1, d2] => { results := [.lit (.bool true)], args := [d1, d2] }
  | _ => none }
def fnExactTxtLinesRow : OpenClaim := { program := "ytgnaaeonklongar", sum := "bd8b7a12f1295f78b781820d12ad9ac36a47cc6ef5a8e43b9bea4308e9cac371", func := "loop.example/panework/laws.FnExactTxtLines", spec := "fnExactTxtLines", inPlace := ["internal/abi.NoEscape"], unfollowed := true, recurses := true, apart := false }
def FnExactTxtLinesSaid : Prop := fnExactTxtLinesRow.holds Try.pinned (OpenSpec.ofChange fnExactTxtLinesSpec)

/-- ITS FALSE NEIGHBOUR: 'it returns false'. Refute it at one input. -/
def fnExactTxtLinesWrong : ChangeSpec := { name := "fnExactTxtLines", fn := fun _ => fun
  | [d1, d2] => { results := [.lit (.bool false)], args := [d1, d2] }
  | _ => none }
def FnExactTxtLinesWrongFalsely : Prop := fnExactTxtLinesRow.holds Try.pinned (OpenSpec.ofChange fnExactTxtLinesWrong)

/-- 'laws.FnExactTxtCount': WHATEVER THE INPUT: true; the input reads as it did. -/
def fnExactTxtCountSpec : ChangeSpec := { name := "fnExactTxtCount", fn := fun _ => fun
  | [d] => { results := [.lit (.bool true)], args := [d] }
  | _ => none }
def fnExactTxtCountRow : OpenClaim := { program := "ytgnaaeonklongar", sum := "bd8b7a12f1295f78b781820d12ad9ac36a47cc6ef5a8e43b9bea4308e9cac371", func := "loop.example/panework/laws.FnExactTxtCount", spec := "fnExactTxtCount", unfollowed := true, recurses := true, apart := false }
def FnExactTxtCountSaid : Prop := fnExactTxtCountRow.holds Try.pinned (OpenSpec.ofChange fnExactTxtCountSpec)

/-- ITS FALSE NEIGHBOUR: 'it returns false'. Refute it at one input. -/
def fnExactTxtCountWrong : ChangeSpec := { name := "fnExactTxtCount", fn := fun _ => fun
  | [d] => { results := [.lit (.bool false)], args := [d] }
  | _ => none }
def FnExactTxtCountWrongFalsely : Prop := fnExactTxtCountRow.holds Try.pinned (OpenSpec.ofChange fnExactTxtCountWrong)

/-- 'laws.FnExactTxtJoin': WHATEVER THE INPUT: true; the input reads as it did. -/
def fnExactTxtJoinSpec : ChangeSpec := { name := "fnExactTxtJoin", fn := fun _ => fun
  | [d] => { results := [.lit (.bool true)], args := [d] }
  | _ => none }
def fnExactTxtJoinRow : OpenClaim := { program := "ytgnaaeonklongar", sum := "bd8b7a12f1295f78b781820d12ad9ac36a47cc6ef5a8e43b9bea4308e9cac371", func := "loop.example/panework/laws.FnExactTxtJoin", spec := "fnExactTxtJoin", inPlace := ["internal/abi.NoEscape"], apart := false }
def FnExactTxtJoinSaid : Prop := fnExactTxtJoinRow.holds Try.pinned (OpenSpec.ofChange fnExactTxtJoinSpec)

/-- ITS FALSE NEIGHBOUR: 'it returns false'. Refute it at one input. -/
def fnExactTxtJoinWrong : ChangeSpec := { name := "fnExactTxtJoin", fn := fun _ => fun
  | [d] => { results := [.lit (.bool false)], args := [d] }
  | _ => none }
def FnExactTxtJoinWrongFalsely : Prop := fnExactTxtJoinRow.holds Try.pinned (OpenSpec.ofChange fnExactTxtJoinWrong)

/-- 'laws.FnExactBrdOk': WHATEVER THE INPUT: true; the input reads as it did. -/
def fnExactBrdOkSpec : ChangeSpec := { name := "fnExactBrdOk", fn := fun _ => fun
  | [d] => { results := [.lit (.bool true)], args := [d] }
  | _ => none }
def fnExactBrdOkRow : OpenClaim := { program := "ytgnaaeonklongar", sum := "bd8b7a12f1295f78b781820d12ad9ac36a47cc6ef5a8e43b9bea4308e9cac371", func := "loop.example/panework/laws.FnExactBrdOk", spec := "fnExactBrdOk", apart := false }
def FnExactBrdOkSaid : Prop := fnExactBrdOkRow.holds Try.pinned (OpenSpec.ofChange fnExactBrdOkSpec)

/-- ITS FALSE NEIGHBOUR: 'it returns false'. Refute it at one input. -/
def fnExactBrdOkWrong : ChangeSpec := { name := "fnExactBrdOk", fn := fun _ => fun
  | [d] => { results := [.lit (.bool false)], args := [d] }
  | _ => none }
def FnExactBrdOkWrongFalsely : Prop := fnExactBrdOkRow.holds Try.pinned (OpenSpec.ofChange fnExactBrdOkWrong)

/-- 'laws.FnExactCellOk': WHATEVER THE INPUT: true; the input reads as it did. -/
def fnExactCellOkSpec : ChangeSpec := { name := "fnExactCellOk", fn := fun _ => fun
  | [d] => { results := [.lit (.bool true)], args := [d] }
  | _ => none }
def fnExactCellOkRow : OpenClaim := { program := "ytgnaaeonklongar", sum := "bd8b7a12f1295f78b781820d12ad9ac36a47cc6ef5a8e43b9bea4308e9cac371", func := "loop.example/panework/laws.FnExactCellOk", spec := "fnExactCellOk", apart := false }
def FnExactCellOkSaid : Prop := fnExactCellOkRow.holds Try.pinned (OpenSpec.ofChange fnExactCellOkSpec)

/-- ITS FALSE NEIGHBOUR: 'it returns false'. Refute it at one input. -/
def fnExactCellOkWrong : ChangeSpec := { name := "fnExactCellOk", fn := fun _ => fun
  | [d] => { results := [.lit (.bool false)], args := [d] }
  | _ => none }
def FnExactCellOkWrongFalsely : Prop := fnExactCellOkRow.holds Try.pinned (OpenSpec.ofChange fnExactCellOkWrong)

/-- 'laws.FnExactTblOk': WHATEVER THE INPUT: true; the input reads as it did. -/
def fnExactTblOkSpec : ChangeSpec := { name := "fnExactTblOk", fn := fun _ => fun
  | [d] => { results := [.lit (.bool true)], args := [d] }
  | _ => none }
def fnExactTblOkRow : OpenClaim := { program := "ytgnaaeonklongar", sum := "bd8b7a12f1295f78b781820d12ad9ac36a47cc6ef5a8e43b9bea4308e9cac371", func := "loop.example/panework/laws.FnExactTblOk", spec := "fnExactTblOk", unfollowed := true, recurses := true, apart := false }
def FnExactTblOkSaid : Prop := fnExactTblOkRow.holds Try.pinned (OpenSpec.ofChange fnExactTblOkSpec)

/-- ITS FALSE NEIGHBOUR: 'it returns false'. Refute it at one input. -/
def fnExactTblOkWrong : ChangeSpec := { name := "fnExactTblOk", fn := fun _ => fun
  | [d] => { results := [.lit (.bool false)], args := [d] }
  | _ => none }
def FnExactTblOkWrongFalsely : Prop := fnExactTblOkRow.holds Try.pinned (OpenSpec.ofChange fnExactTblOkWrong)

/- THE SECOND FORM. 'bulk': how many values and letters a reading holds, each counted each time it is reached (what is shared counts as often as it is met; a slice's spare places count too). A statement '..UptoSaid' is the law's where the arguments, and the package variables that the reading takes, are together of bulk at most 1048576: NARROWER than '..Said'. Prove '..Said' where nothing that the law and all that it calls make is longer than what came in: it says more and counts as full. Else prove '..UptoSaid'. A law counts once. -/
mutual
def uptoBulk {H : Type} : DataW H → Nat
  | .lit (.string bytes) => bytes.length + 1
  | .lit _ => 1
  | .nil => 1
  | .ptr d => uptoBulk d + 1
  | .slice elems spare => uptoBulkAll elems + uptoBulkAll spare + 1
  | .agg parts => uptoBulkAll parts + 1
  | .iface _ d => uptoBulk d + 1
  | .map entries => uptoBulkEntries entries + 1
  | .held _ => 1
def uptoBulkAll {H : Type} : List (DataW H) → Nat
  | [] => 0
  | d :: r => uptoBulk d + uptoBulkAll r
def uptoBulkEntries {H : Type} : List (Lit × DataW H) → Nat
  | [] => 0
  | x :: r => uptoBulkEntry x + uptoBulkEntries r
def uptoBulkEntry {H : Type} : Lit × DataW H → Nat
  | (.string bytes, d) => bytes.length + uptoBulk d + 1
  | (_, d) => uptoBulk d + 1
 end
def uptoSmall : (H : Type) → List (DataW H) → Bool := fun _ ds => decide (uptoBulkAll ds ≤ 1048576)
def OpenSpec.upto (s : _root_.Go.ChangeSpec) : _root_.Go.OpenSpec := { _root_.Go.OpenSpec.ofChange s with cond := some uptoSmall }

/-- 'laws.FnExactTxtLines', WHERE WHAT IT READS IS OF BULK AT MOST 1048576: true; the input reads as it did. -/
def fnExactTxtLinesUptoRow : OpenClaim := { program := "ytgnaaeonklongar", sum := "bd8b7a12f1295f78b781820d12ad9ac36a47cc6ef5a8e43b9bea4308e9cac371", func := "loop.example/panework/laws.FnExactTxtLines", spec := "fnExactTxtLines", inPlace := ["internal/abi.NoEscape"], unfollowed := true, recurses := true, apart := false, narrowed := true }
def FnExactTxtLinesUptoSaid : Prop := fnExactTxtLinesUptoRow.holds Try.pinned (OpenSpec.upto fnExactTxtLinesSpec)

/-- 'laws.FnExactTxtCount', WHERE WHAT IT READS IS OF BULK AT MOST 1048576: true; the input reads as it did. -/
def fnExactTxtCountUptoRow : OpenClaim := { program := "ytgnaaeonklongar", sum := "bd8b7a12f1295f78b781820d12ad9ac36a47cc6ef5a8e43b9bea4308e9cac371", func := "loop.example/panework/laws.FnExactTxtCount", spec := "fnExactTxtCount", unfollowed := true, recurses := true, apart := false, narrowed := true }
def FnExactTxtCountUptoSaid : Prop := fnExactTxtCountUptoRow.holds Try.pinned (OpenSpec.upto fnExactTxtCountSpec)

/-- 'laws.FnExactTxtJoin', WHERE WHAT IT READS IS OF BULK AT MOST 1048576: true; the input reads as it did. -/
def fnExactTxtJoinUptoRow : OpenClaim := { program := "ytgnaaeonklongar", sum := "bd8b7a12f1295f78b781820d12ad9ac36a47cc6ef5a8e43b9bea4308e9cac371", func := "loop.example/panework/laws.FnExactTxtJoin", spec := "fnExactTxtJoin", inPlace := ["internal/abi.NoEscape"], apart := false, narrowed := true }
def FnExactTxtJoinUptoSaid : Prop := fnExactTxtJoinUptoRow.holds Try.pinned (OpenSpec.upto fnExactTxtJoinSpec)

/-- 'laws.FnExactBrdOk', WHERE WHAT IT READS IS OF BULK AT MOST 1048576: true; the input reads as it did. -/
def fnExactBrdOkUptoRow : OpenClaim := { program := "ytgnaaeonklongar", sum := "bd8b7a12f1295f78b781820d12ad9ac36a47cc6ef5a8e43b9bea4308e9cac371", func := "loop.example/panework/laws.FnExactBrdOk", spec := "fnExactBrdOk", apart := false, narrowed := true }
def FnExactBrdOkUptoSaid : Prop := fnExactBrdOkUptoRow.holds Try.pinned (OpenSpec.upto fnExactBrdOkSpec)

/-- 'laws.FnExactCellOk', WHERE WHAT IT READS IS OF BULK AT MOST 1048576: true; the input reads as it did. -/
def fnExactCellOkUptoRow : OpenClaim := { program := "ytgnaaeonklongar", sum := "bd8b7a12f1295f78b781820d12ad9ac36a47cc6ef5a8e43b9bea4308e9cac371", func := "loop.example/panework/laws.FnExactCellOk", spec := "fnExactCellOk", apart := false, narrowed := true }
def FnExactCellOkUptoSaid : Prop := fnExactCellOkUptoRow.holds Try.pinned (OpenSpec.upto fnExactCellOkSpec)

/-- 'laws.FnExactTblOk', WHERE WHAT IT READS IS OF BULK AT MOST 1048576: true; the input reads as it did. -/
def fnExactTblOkUptoRow : OpenClaim := { program := "ytgnaaeonklongar", sum := "bd8b7a12f1295f78b781820d12ad9ac36a47cc6ef5a8e43b9bea4308e9cac371", func := "loop.example/panework/laws.FnExactTblOk", spec := "fnExactTblOk", unfollowed := true, recurses := true, apart := false, narrowed := true }
def FnExactTblOkUptoSaid : Prop := fnExactTblOkUptoRow.holds Try.pinned (OpenSpec.upto fnExactTblOkSpec)

end Rows
end Go.Proofs.Ytgnaaeonklongar
