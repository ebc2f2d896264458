/-
  No cell of these rows narrows 'for every input' (looked for: loops, veiled, ifaces, maps, wideKeys, modest, calm, conditions, laid).
  DERIVED. THE GIVEN ROWS OF THIS SEAT. 4 by the template 'for every input the law returns true; each argument reads behind the call as it read before'; 0 by the template 'total and deterministic' (their statements: YtmdghonefdmihawTotals.lean).
  GIVEN WITH THE SEED: the statements are not yours to turn. If you find one false, say at which input.
  Laid BY PROGRAM, IN A SANDBOX (cutbox-rows.mjs): the forced cells as the released guide's own fill.sh prints them over the translation c8f46b5172b8cf92… (all of the seat's roots in one cut). By AI agents, Wed Nov 11 2026. No macro, syntax, notation, axiom, sorry.
-/
import Derived.Test.YtmdghonefdmihawChecked
import GoSem.Claim
import GoSem.ClaimJoined
import GoSem.ClaimMapViews
import Derived.JoinedTies
import Derived.KernelRfl
namespace Go.Proofs.Ytmdghonefdmihaw
/- THE CELL 'sum', in the pinned program and in every row, IS THE sha256 OF THE DUMP (.gsa) THAT YtmdghonefdmihawProg.lean LOADS. Nothing in Lean hashes anything: it is a label: what it is worth is what the hold of that sum in a sandbox is worth. -/
noncomputable def Try.pinned : Pinned := { name := "ytmdghonefdmihaw", sum := "c8f46b5172b8cf92914419eccbada5154424dba6d85783f1b2470f5130ecf956", checked := Try.checked }
namespace Rows
def none {H : Type} : Left H := { results := [], args := [] }

/-- 'laws.FnExactWidCell': WHATEVER THE INPUT: true; the input reads as it did. -/
def fnExactWidCellSpec : ChangeSpec := { name := "fnExactWidCell", fn := fun _ => fun
  | [d1, d2, d3] => { results := [.lit (.bool true)], args := [d1, d2, d3] }
  | _ => none }
def fnExactWidCellRow : OpenClaim := { program := "ytmdghonefdmihaw", sum := "c8f46b5172b8cf92914419eccbada5154424dba6d85783f1b2470f5130ecf956", func := "loop.example/panework/laws.FnExactWidCell", spec := "fnExactWidCell", apart := false }
def FnExactWidCellSaid : Prop := fnExactWidCellRow.holds Try.pinned (OpenSpec.ofChange fnExactWidCellSpec)

/-- ITS FALSE NEIGHBOUR: 'it returns false'. Refute it at one input. -/
def fnExactWidCellWrong : ChangeSpec := { name := "fnExactWidCell", fn := fun _ => fun
  | [d1, d2, d3] => { results := [.lit (.bool false)], args := [d1, d2, d3] }
  | _ => none }
def FnExactWidCellWrongFalsely : Prop := fnExactWidCellRow.holds Try.pinned (OpenSpec.ofChange fnExactWidCellWrong)

/-- 'laws.FnExactWidEnd': WHATEVER THE INPUT: true; the input reads as it did. -/
def fnExactWidEndSpec : ChangeSpec := { name := "fnExactWidEnd", fn := fun _ => fun
  | [d1, d2, d3] => { results := [.lit (.bool true)], args := [d1, d2, d3] }
  | _ => none }
def fnExactWidEndRow : OpenClaim := { program := "ytmdghonefdmihaw", sum := "c8f46b5172b8cf92914419eccbada5154424dba6d85783f1b2470f5130ecf956", func := "loop.example/panework/laws.FnExactWidEnd", spec := "fnExactWidEnd", apart := false }
def FnExactWidEndSaid : Prop := fnExactWidEndRow.holds Try.pinned (OpenSpec.ofChange fnExactWidEndSpec)

/-- ITS FALSE NEIGHBOUR: 'it returns false'. Refute it at one input. -/
def fnExactWidEndWrong : ChangeSpec := { name := "fnExactWidEnd", fn := fun _ => fun
  | [d1, d2, d3] => { results := [.lit (.bool false)], args := [d1, d2, d3] }
  | _ => none }
def FnExactWidEndWrongFalsely : Prop := fnExactWidEndRow.holds Try.pinned (OpenSpec.ofChange fnExactWidEndWrong)

/-- 'laws.FnExactHgtAt': WHATEVER THE INPUT: true; the input reads as it did. -/
def fnExactHgtAtSpec : ChangeSpec := { name := "fnExactHgtAt", fn := fun _ => fun
  | [d1, d2] => { results := [.lit (.bool true)], args := [d1, d2] }
  | _ => none }
def fnExactHgtAtRow : OpenClaim := { program := "ytmdghonefdmihaw", sum := "c8f46b5172b8cf92914419eccbada5154424dba6d85783f1b2470f5130ecf956", func := "loop.example/panework/laws.FnExactHgtAt", spec := "fnExactHgtAt", apart := false }
def FnExactHgtAtSaid : Prop := fnExactHgtAtRow.holds Try.pinned (OpenSpec.ofChange fnExactHgtAtSpec)

/-- ITS FALSE NEIGHBOUR: 'it returns false'. Refute it at one input. -/
def fnExactHgtAtWrong : ChangeSpec := { name := "fnExactHgtAt", fn := fun _ => fun
  | [d1, d2] => { results := [.lit (.bool false)], args := [d1, d2] }
  | _ => none }
def FnExactHgtAtWrongFalsely : Prop := fnExactHgtAtRow.holds Try.pinned (OpenSpec.ofChange fnExactHgtAtWrong)

/-- 'laws.FnExactHgtCell': WHATEVER THE INPUT: true; the input reads as it did. -/
def fnExactHgtCellSpec : ChangeSpec := { name := "fnExactHgtCell", fn := fun _ => fun
  | [d1, d2] => { results := [.lit (.bool true)], args := [d1, d2] }
  | _ => none }
def fnExactHgtCellRow : OpenClaim := { program := "ytmdghonefdmihaw", sum := "c8f46b5172b8cf92914419eccbada5154424dba6d85783f1b2470f5130ecf956", func := "loop.example/panework/laws.FnExactHgtCell", spec := "fnExactHgtCell", apart := false }
def FnExactHgtCellSaid : Prop := fnExactHgtCellRow.holds Try.pinned (OpenSpec.ofChange fnExactHgtCellSpec)

/-- ITS FALSE NEIGHBOUR: 'it returns false'. Refute it at one input. -/
def fnExactHgtCellWrong : ChangeSpec := { name := "fnExactHgtCell", fn := fun _ => fun
  | [d1, d2] => { results := [.lit (.bool false)], args := [d1, d2] }
  | _ => none }
def FnExactHgtCellWrongFalsely : Prop := fnExactHgtCellRow.holds Try.pinned (OpenSpec.ofChange fnExactHgtCellWrong)

/- THE SECOND FORM. 'bulk': how many values and letters a reading holds, each counted each time it is reached (what is shared counts as often as it is met; a slice's spare places count too). A statement '..UptoSaid' is the law's where the arguments, and the package variables that the reading takes, are together of bulk at most 1048576: NARROWER than '..Said'. Prove '..Said' where nothing that the law and all that it calls make is longer than what came in: it says more and counts as full. Else prove '..UptoSaid'. A law counts once. -/
mutual
def uptoBulk {H : Type} : DataW H → Nat
  | .lit (.string bytes) => bytes.length + 1
  | .lit _ => 1
  | .nil => 1
  | .ptr d => uptoBulk d + 1
  | .slice elems spare => uptoBulkAll elems + uptoBulkAll spare + 1
  | .agg parts => uptoBulkAll parts + 1
  | .iface _ d => uptoBulk d + 1
  | .map entries => uptoBulkEntries entries + 1
  | .held _ => 1
def uptoBulkAll {H : Type} : List (DataW H) → Nat
  | [] => 0
  | d :: r => uptoBulk d + uptoBulkAll r
def uptoBulkEntries {H : Type} : List (Lit × DataW H) → Nat
  | [] => 0
  | x :: r => uptoBulkEntry x + uptoBulkEntries r
def uptoBulkEntry {H : Type} : Lit × DataW H → Nat
  | (.string bytes, d) => bytes.length + uptoBulk d + 1
  | (_, d) => uptoBulk d + 1
 end
def uptoSmall : (H : Type) → List (DataW H) → Bool := fun _ ds => decide (uptoBulkAll ds ≤ 1048576)
def OpenSpec.upto (s : _root_.Go.ChangeSpec) : _root_.Go.OpenSpec := { _root_.Go.OpenSpec.ofChange s with cond := some uptoSmall }

/-- 'laws.FnExactWidCell', WHERE WHAT IT READS IS OF BULK AT MOST 1048576: true; the input reads as it did. -/
def fnExactWidCellUptoRow : OpenClaim := { program := "ytmdghonefdmihaw", sum := "c8f46b5172b8cf92914419eccbada5154424dba6d85783f1b2470f5130ecf956", func := "loop.example/panework/laws.FnExactWidCell", spec := "fnExactWidCell", apart := false, narrowed := true }
def FnExactWidCellUptoSaid : Prop := fnExactWidCellUptoRow.holds Try.pinned (OpenSpec.upto fnExactWidCellSpec)

/-- 'laws.FnExactWidEnd', WHERE WHAT IT READS IS OF BULK AT MOST 1048576: true; the input reads as it did. -/
def fnExactWidEndUptoRow : OpenClaim := { program := "ytmdghonefdmihaw", sum := "c8f46b5172b8cf92914419eccbada5154424dba6d85783f1b2470f5130ecf956", func := "loop.example/panework/laws.FnExactWidEnd", spec := "fnExactWidEnd", apart := false, narrowed := true }
def FnExactWidEndUptoSaid : Prop := fnExactWidEndUptoRow.holds Try.pinned (OpenSpec.upto fnExactWidEndSpec)

/-- 'laws.FnExactHgtAt', WHERE WHAT IT READS IS OF BULK AT MOST 1048576: true; the input reads as it did. -/
def fnExactHgtAtUptoRow : OpenClaim := { program := "ytmdghonefdmihaw", sum := "c8f46b5172b8cf92914419eccbada5154424dba6d85783f1b2470f5130ecf956", func := "loop.example/panework/laws.FnExactHgtAt", spec := "fnExactHgtAt", apart := false, narrowed := true }
def FnExactHgtAtUptoSaid : Prop := fnExactHgtAtUptoRow.holds Try.pinned (OpenSpec.upto fnExactHgtAtSpec)

/-- 'laws.FnExactHgtCell', WHERE WHAT IT READS IS OF BULK AT MOST 1048576: true; the input reads as it did. -/
def fnExactHgtCellUptoRow : OpenClaim := { program := "ytmdghonefdmihaw", sum := "c8f46b5172b8cf92914419eccbada5154424dba6d85783f1b2470f5130ecf956", func := "loop.example/panework/laws.FnExactHgtCell", spec := "fnExactHgtCell", apart := false, narrowed := true }
def FnExactHgtCellUptoSaid : Prop := fnExactHgtCellUptoRow.holds Try.pinned (OpenSpec.upto fnExactHgtCellSpec)

end Rows
end Go.Proofs.Ytmdghonefdmihaw
