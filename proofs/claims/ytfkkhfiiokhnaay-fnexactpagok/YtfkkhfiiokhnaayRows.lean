/-
  No cell of these rows narrows 'for every input' (looked for: loops, veiled, ifaces, maps, wideKeys, modest, calm, conditions, laid).
  DERIVED. THE GIVEN ROWS OF THIS SEAT. 4 by the template 'for every input the law returns true; each argument reads behind the call as it read before'; 0 by the template 'total and deterministic' (their statements: YtfkkhfiiokhnaayTotals.lean).
  GIVEN WITH THE SEED: the statements are not yours to turn. If you find one false, say at which input.
  Laid BY PROGRAM, IN A SANDBOX (cutbox-rows.mjs): the forced cells as the released guide's own fill.sh prints them over the translation db5c1d15bf444777… (all of the seat's roots in one cut). By AI agents, Wed Nov 11 2026. No macro, syntax, notation, axiom, sorry.
-/
import Derived.Test.YtfkkhfiiokhnaayChecked
import GoSem.Claim
import GoSem.ClaimJoined
import GoSem.ClaimMapViews
import Derived.JoinedTies
import Derived.KernelRfl
namespace Go.Proofs.Ytfkkhfiiokhnaay
/- THE CELL 'sum', in the pinned program and in every row, IS THE sha256 OF THE DUMP (.gsa) THAT YtfkkhfiiokhnaayProg.lean LOADS. Nothing in Lean hashes anything: it is a label: what it is worth is what the hold of that sum in a sandbox is worth. -/
noncomputable def Try.pinned : Pinned := { name := "ytfkkhfiiokhnaay", sum := "db5c1d15bf44477745058c021d62b48bf1a02c7c262a08aff6264fa33a29d00f", checked := Try.checked }
namespace Rows
def none {H : Type} : Left H := { results := [], args := [] }

/-- 'laws.FnExactPagOk': WHATEVER THE INPUT: true; the input reads as it did. -/
def fnExactPagOkSpec : ChangeSpec := { name := "fnExactPagOk", fn := fun _ => fun
  | [d1, d2, d3] => { results := [.lit (.bool true)], args := [d1, d2, d3] }
  | _ => none }
def fnExactPagOkRow : OpenClaim := { program := "ytfkkhfiiokhnaay", sum := "db5c1d15bf44477745058c021d62b48bf1a02c7c262a08aff6264fa33a29d00f", func := "loop.example/panework/laws.FnExactPagOk", spec := "fnExactPagOk", unfollowed := true, recurses := true, apart := false }
def FnExactPagOkSaid : Prop := fnExactPagOkRow.holds Try.pinned (OpenSpec.ofChange fnExactPagOkSpec)

/-- ITS FALSE NEIGHBOUR: 'it returns false'. Refute it at one input. -/
def fnExactPagOkWrong : ChangeSpec := { name := "fnExactPagOk", fn := fun _ => fun
  | [d1, d2, d3] => { results := [.lit (.bool false)], args := [d1, d2, d3] }
  | _ => none }
def FnExactPagOkWrongFalsely : Prop := fnExactPagOkRow.holds Try.pinned (OpenSpec.ofChange fnExactPagOkWrong)

/-- 'laws.FnExactPagHigh': WHATEVER THE INPUT: true; the input reads as it did. -/
def fnExactPagHighSpec : ChangeSpec := { name := "fnExactPagHigh", fn := fun _ => fun
  | [d] => { results := [.lit (.bool true)], args := [d] }
  | _ => none }
def fnExactPagHighRow : OpenClaim := { program := "ytfkkhfiiokhnaay", sum := "db5c1d15bf44477745058c021d62b48bf1a02c7c262a08aff6264fa33a29d00f", func := "loop.example/panework/laws.FnExactPagHigh", spec := "fnExactPagHigh", apart := false }
def FnExactPagHighSaid : Prop := fnExactPagHighRow.holds Try.pinned (OpenSpec.ofChange fnExactPagHighSpec)

/-- ITS FALSE NEIGHBOUR: 'it returns false'. Refute it at one input. -/
def fnExactPagHighWrong : ChangeSpec := { name := "fnExactPagHigh", fn := fun _ => fun
  | [d] => { results := [.lit (.bool false)], args := [d] }
  | _ => none }
def FnExactPagHighWrongFalsely : Prop := fnExactPagHighRow.holds Try.pinned (OpenSpec.ofChange fnExactPagHighWrong)

/-- 'laws.FnExactPagRow': WHATEVER THE INPUT: true; the input reads as it did. -/
def fnExactPagRowSpec : ChangeSpec := { name := "fnExactPagRow", fn := fun _ => fun
  | [d1, d2] => { results := [.lit (.bool true)], args := [d1, d2] }
  | _ => none }
def fnExactPagRowRow : OpenClaim := { program := "ytfkkhfiiokhnaay", sum := "db5c1d15bf44477745058c021d62b48bf1a02c7c262a08aff6264fa33a29d00f", func := "loop.example/panework/laws.FnExactPagRow", spec := "fnExactPagRow", apart := false }
def FnExactPagRowSaid : Prop := fnExactPagRowRow.holds Try.pinned (OpenSpec.ofChange fnExactPagRowSpec)

/-- ITS FALSE NEIGHBOUR: 'it returns false'. Refute it at one input. -/
def fnExactPagRowWrong : ChangeSpec := { name := "fnExactPagRow", fn := fun _ => fun
  | [d1, d2] => { results := [.lit (.bool false)], args := [d1, d2] }
  | _ => none }
def FnExactPagRowWrongFalsely : Prop := fnExactPagRowRow.holds Try.pinned (OpenSpec.ofChange fnExactPagRowWrong)

/-- 'laws.FnExactPagFirst': WHATEVER THE INPUT: true; the input reads as it did. -/
def fnExactPagFirstSpec : ChangeSpec := { name := "fnExactPagFirst", fn := fun _ => fun
  | [d1, d2] => { results := [.lit (.bool true)], args := [d1, d2] }
  | _ => none }
def fnExactPagFirstRow : OpenClaim := { program := "ytfkkhfiiokhnaay", sum := "db5c1d15bf44477745058c021d62b48bf1a02c7c262a08aff6264fa33a29d00f", func := "loop.example/panework/laws.FnExactPagFirst", spec := "fnExactPagFirst", apart := false }
def FnExactPagFirstSaid : Prop := fnExactPagFirstRow.holds Try.pinned (OpenSpec.ofChange fnExactPagFirstSpec)

/-- ITS FALSE NEIGHBOUR: 'it returns false'. Refute it at one input. -/
def fnExactPagFirstWrong : ChangeSpec := { name := "fnExactPagFirst", fn := fun _ => fun
  | [d1, d2] => { results := [.lit (.bool false)], args := [d1, d2] }
  | _ => none }
def FnExactPagFirstWrongFalsely : Prop := fnExactPagFirstRow.holds Try.pinned (OpenSpec.ofChange fnExactPagFirstWrong)

/- THE SECOND FORM. 'bulk': how many values and letters a reading holds, each counted each time it is reached (what is shared counts as often as it is met; a slice's spare places count too). A statement '..UptoSaid' is the law's where the arguments, and the package variables that the reading takes, are together of bulk at most 1048576: NARROWER than '..Said'. Prove '..Said' where nothing that the law and all that it calls make is longer than what came in: it says more and counts as full. Else prove '..UptoSaid'. A law counts once. -/
mutual
def uptoBulk {H : Type} : DataW H → Nat
  | .lit (.string bytes) => bytes.length + 1
  | .lit _ => 1
  | .nil => 1
  | .ptr d => uptoBulk d + 1
  | .slice elems spare => uptoBulkAll elems + uptoBulkAll spare + 1
  | .agg parts => uptoBulkAll parts + 1
  | .iface _ d => uptoBulk d + 1
  | .map entries => uptoBulkEntries entries + 1
  | .held _ => 1
def uptoBulkAll {H : Type} : List (DataW H) → Nat
  | [] => 0
  | d :: r => uptoBulk d + uptoBulkAll r
def uptoBulkEntries {H : Type} : List (Lit × DataW H) → Nat
  | [] => 0
  | x :: r => uptoBulkEntry x + uptoBulkEntries r
def uptoBulkEntry {H : Type} : Lit × DataW H → Nat
  | (.string bytes, d) => bytes.length + uptoBulk d + 1
  | (_, d) => uptoBulk d + 1
 end
def uptoSmall : (H : Type) → List (DataW H) → Bool := fun _ ds => decide (uptoBulkAll ds ≤ 1048576)
def OpenSpec.upto (s : _root_.Go.ChangeSpec) : _root_.Go.OpenSpec := { _root_.Go.OpenSpec.ofChange s with cond := some uptoSmall }

/-- 'laws.FnExactPagOk', WHERE WHAT IT READS IS OF BULK AT MOST 1048576: true; the input reads as it did. -/
def fnExactPagOkUptoRow : OpenClaim := { program := "ytfkkhfiiokhnaay", sum := "db5c1d15bf44477745058c021d62b48bf1a02c7c262a08aff6264fa33a29d00f", func := "loop.example/panework/laws.FnExactPagOk", spec := "fnExactPagOk", unfollowed := true, recurses := true, apart := false, narrowed := true }
def FnExactPagOkUptoSaid : Prop := fnExactPagOkUptoRow.holds Try.pinned (OpenSpec.upto fnExactPagOkSpec)

/-- 'laws.FnExactPagHigh', WHERE WHAT IT READS IS OF BULK AT MOST 1048576: true; the input reads as it did. -/
def fnExactPagHighUptoRow : OpenClaim := { program := "ytfkkhfiiokhnaay", sum := "db5c1d15bf44477745058c021d62b48bf1a02c7c262a08aff6264fa33a29d00f", func := "loop.example/panework/laws.FnExactPagHigh", spec := "fnExactPagHigh", apart := false, narrowed := true }
def FnExactPagHighUptoSaid : Prop := fnExactPagHighUptoRow.holds Try.pinned (OpenSpec.upto fnExactPagHighSpec)

/-- 'laws.FnExactPagRow', WHERE WHAT IT READS IS OF BULK AT MOST 1048576: true; the input reads as it did. -/
def fnExactPagRowUptoRow : OpenClaim := { program := "ytfkkhfiiokhnaay", sum := "db5c1d15bf44477745058c021d62b48bf1a02c7c262a08aff6264fa33a29d00f", func := "loop.example/panework/laws.FnExactPagRow", spec := "fnExactPagRow", apart := false, narrowed := true }
def FnExactPagRowUptoSaid : Prop := fnExactPagRowUptoRow.holds Try.pinned (OpenSpec.upto fnExactPagRowSpec)

/-- 'laws.FnExactPagFirst', WHERE WHAT IT READS IS OF BULK AT MOST 1048576: true; the input reads as it did. -/
def fnExactPagFirstUptoRow : OpenClaim := { program := "ytfkkhfiiokhnaay", sum := "db5c1d15bf44477745058c021d62b48bf1a02c7c262a08aff6264fa33a29d00f", func := "loop.example/panework/laws.FnExactPagFirst", spec := "fnExactPagFirst", apart := false, narrowed := true }
def FnExactPagFirstUptoSaid : Prop := fnExactPagFirstUptoRow.holds Try.pinned (OpenSpec.upto fnExactPagFirstSpec)

end Rows
end Go.Proofs.Ytfkkhfiiokhnaay
