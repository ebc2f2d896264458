/-
  No cell of these rows narrows 'for every input' (looked for: loops, veiled, ifaces, maps, wideKeys, modest, calm, conditions, laid).
  DERIVED. THE GIVEN ROWS OF THIS SEAT. 4 by the template 'for every input the law returns true; each argument reads behind the call as it read before'; 0 by the template 'total and deterministic' (their statements: YtgcobajekffmoauTotals.lean).
  GIVEN WITH THE SEED: the statements are not yours to turn. If you find one false, say at which input.
  Laid BY PROGRAM, IN A SANDBOX (cutbox-rows.mjs): the forced cells as the released guide's own fill.sh prints them over the translation 403d6e22c96e40ee… (all of the seat's roots in one cut). By AI agents, Wed Nov 11 2026. No macro, syntax, notation, axiom, sorry.
-/
import Derived.Test.YtgcobajekffmoauChecked
import GoSem.Claim
import GoSem.ClaimJoined
import GoSem.ClaimMapViews
import Derived.JoinedTies
import Derived.KernelRfl
namespace Go.Proofs.Ytgcobajekffmoau
/- THE CELL 'sum', in the pinned program and in every row, IS THE sha256 OF THE DUMP (.gsa) THAT YtgcobajekffmoauProg.lean LOADS. Nothing in Lean hashes anything: it is a label: what it is worth is what the hold of that sum in a sandbox is worth. -/
noncomputable def Try.pinned : Pinned := { name := "ytgcobajekffmoau", sum := "403d6e22c96e40ee2819733012b010646be43a3e41271fb897c4a87b7e2b357a", checked := Try.checked }
namespace Rows
def none {H : Type} : Left H := { results := [], args := [] }

/-- 'laws.FnExactShrOk': WHATEVER THE INPUT: true; the input reads as it did. -/
def fnExactShrOkSpec : ChangeSpec := { name := "fnExactShrOk", fn := fun _ => fun
  | [d1, d2] => { results := [.lit (.bool true)], args := [d1, d2] }
  | _ => none }
def fnExactShrOkRow : OpenClaim := { program := "ytgcobajekffmoau", sum := "403d6e22c96e40ee2819733012b010646be43a3e41271fb897c4a87b7e2b357a", func := "loop.example/panework/laws.FnExactShrOk", spec := "fnExactShrOk", apart := false }
def FnExactShrOkSaid : Prop := fnExactShrOkRow.holds Try.pinned (OpenSpec.ofChange fnExactShrOkSpec)

/-- ITS FALSE NEIGHBOUR: 'it returns false'. Refute it at one input. -/
def fnExactShrOkWrong : ChangeSpec := { name := "fnExactShrOk", fn := fun _ => fun
  | [d1, d2] => { results := [.lit (.bool false)], args := [d1, d2] }
  | _ => none }
def FnExactShrOkWrongFalsely : Prop := fnExactShrOkRow.holds Try.pinned (OpenSpec.ofChange fnExactShrOkWrong)

/-- 'laws.FnExactShrShare': WHATEVER THE INPUT: true; the input reads as it did. -/
def fnExactShrShareSpec : ChangeSpec := { name := "fnExactShrShare", fn := fun _ => fun
  | [d1, d2] => { results := [.lit (.bool true)], args := [d1, d2] }
  | _ => none }
def fnExactShrShareRow : OpenClaim := { program := "ytgcobajekffmoau", sum := "403d6e22c96e40ee2819733012b010646be43a3e41271fb897c4a87b7e2b357a", func := "loop.example/panework/laws.FnExactShrShare", spec := "fnExactShrShare", unfollowed := true, recurses := true, apart := false }
def FnExactShrShareSaid : Prop := fnExactShrShareRow.holds Try.pinned (OpenSpec.ofChange fnExactShrShareSpec)

/-- ITS FALSE NEIGHBOUR: 'it returns false'. Refute it at one input. -/
def fnExactShrShareWrong : ChangeSpec := { name := "fnExactShrShare", fn := fun _ => fun
  | [d1, d2] => { results := [.lit (.bool false)], args := [d1, d2] }
  | _ => none }
def FnExactShrShareWrongFalsely : Prop := fnExactShrShareRow.holds Try.pinned (OpenSpec.ofChange fnExactShrShareWrong)

/-- 'laws.FnExactShrUpTo': WHATEVER THE INPUT: true; the input reads as it did. -/
def fnExactShrUpToSpec : ChangeSpec := { name := "fnExactShrUpTo", fn := fun _ => fun
  | [d1, d2] => { results := [.lit (.bool true)], args := [d1, d2] }
  | _ => none }
def fnExactShrUpToRow : OpenClaim := { program := "ytgcobajekffmoau", sum := "403d6e22c96e40ee2819733012b010646be43a3e41271fb897c4a87b7e2b357a", func := "loop.example/panework/laws.FnExactShrUpTo", spec := "fnExactShrUpTo", unfollowed := true, recurses := true, apart := false }
def FnExactShrUpToSaid : Prop := fnExactShrUpToRow.holds Try.pinned (OpenSpec.ofChange fnExactShrUpToSpec)

/-- ITS FALSE NEIGHBOUR: 'it returns false'. Refute it at one input. -/
def fnExactShrUpToWrong : ChangeSpec := { name := "fnExactShrUpTo", fn := fun _ => fun
  | [d1, d2] => { results := [.lit (.bool false)], args := [d1, d2] }
  | _ => none }
def FnExactShrUpToWrongFalsely : Prop := fnExactShrUpToRow.holds Try.pinned (OpenSpec.ofChange fnExactShrUpToWrong)

/-- 'laws.FnExactShrDue': WHATEVER THE INPUT: true; the input reads as it did. -/
def fnExactShrDueSpec : ChangeSpec := { name := "fnExactShrDue", fn := fun _ => fun
  | [d1, d2, d3] => { results := [.lit (.bool true)], args := [d1, d2, d3] }
  | _ => none }
def fnExactShrDueRow : OpenClaim := { program := "ytgcobajekffmoau", sum := "403d6e22c96e40ee2819733012b010646be43a3e41271fb897c4a87b7e2b357a", func := "loop.example/panework/laws.FnExactShrDue", spec := "fnExactShrDue", apart := false }
def FnExactShrDueSaid : Prop := fnExactShrDueRow.holds Try.pinned (OpenSpec.ofChange fnExactShrDueSpec)

/-- ITS FALSE NEIGHBOUR: 'it returns false'. Refute it at one input. -/
def fnExactShrDueWrong : ChangeSpec := { name := "fnExactShrDue", fn := fun _ => fun
  | [d1, d2, d3] => { results := [.lit (.bool false)], args := [d1, d2, d3] }
  | _ => none }
def FnExactShrDueWrongFalsely : Prop := fnExactShrDueRow.holds Try.pinned (OpenSpec.ofChange fnExactShrDueWrong)

/- THE SECOND FORM. 'bulk': how many values and letters a reading holds, each counted each time it is reached (what is shared counts as often as it is met; a slice's spare places count too). A statement '..UptoSaid' is the law's where the arguments, and the package variables that the reading takes, are together of bulk at most 1048576: NARROWER than '..Said'. Prove '..Said' where nothing that the law and all that it calls make is longer than what came in: it says more and counts as full. Else prove '..UptoSaid'. A law counts once. -/
mutual
def uptoBulk {H : Type} : DataW H → Nat
  | .lit (.string bytes) => bytes.length + 1
  | .lit _ => 1
  | .nil => 1
  | .ptr d => uptoBulk d + 1
  | .slice elems spare => uptoBulkAll elems + uptoBulkAll spare + 1
  | .agg parts => uptoBulkAll parts + 1
  | .iface _ d => uptoBulk d + 1
  | .map entries => uptoBulkEntries entries + 1
  | .held _ => 1
def uptoBulkAll {H : Type} : List (DataW H) → Nat
  | [] => 0
  | d :: r => uptoBulk d + uptoBulkAll r
def uptoBulkEntries {H : Type} : List (Lit × DataW H) → Nat
  | [] => 0
  | x :: r => uptoBulkEntry x + uptoBulkEntries r
def uptoBulkEntry {H : Type} : Lit × DataW H → Nat
  | (.string bytes, d) => bytes.length + uptoBulk d + 1
  | (_, d) => uptoBulk d + 1
 end
def uptoSmall : (H : Type) → List (DataW H) → Bool := fun _ ds => decide (uptoBulkAll ds ≤ 1048576)
def OpenSpec.upto (s : _root_.Go.ChangeSpec) : _root_.Go.OpenSpec := { _root_.Go.OpenSpec.ofChange s with cond := some uptoSmall }

/-- 'laws.FnExactShrOk', WHERE WHAT IT READS IS OF BULK AT MOST 1048576: true; the input reads as it did. -/
def fnExactShrOkUptoRow : OpenClaim := { program := "ytgcobajekffmoau", sum := "403d6e22c96e40ee2819733012b010646be43a3e41271fb897c4a87b7e2b357a", func := "loop.example/panework/laws.FnExactShrOk", spec := "fnExactShrOk", apart := false, narrowed := true }
def FnExactShrOkUptoSaid : Prop := fnExactShrOkUptoRow.holds Try.pinned (OpenSpec.upto fnExactShrOkSpec)

/-- 'laws.FnExactShrShare', WHERE WHAT IT READS IS OF BULK AT MOST 1048576: true; the input reads as it did. -/
def fnExactShrShareUptoRow : OpenClaim := { program := "ytgcobajekffmoau", sum := "403d6e22c96e40ee2819733012b010646be43a3e41271fb897c4a87b7e2b357a", func := "loop.example/panework/laws.FnExactShrShare", spec := "fnExactShrShare", unfollowed := true, recurses := true, apart := false, narrowed := true }
def FnExactShrShareUptoSaid : Prop := fnExactShrShareUptoRow.holds Try.pinned (OpenSpec.upto fnExactShrShareSpec)

/-- 'laws.FnExactShrUpTo', WHERE WHAT IT READS IS OF BULK AT MOST 1048576: true; the input reads as it did. -/
def fnExactShrUpToUptoRow : OpenClaim := { program := "ytgcobajekffmoau", sum := "403d6e22c96e40ee2819733012b010646be43a3e41271fb897c4a87b7e2b357a", func := "loop.example/panework/laws.FnExactShrUpTo", spec := "fnExactShrUpTo", unfollowed := true, recurses := true, apart := false, narrowed := true }
def FnExactShrUpToUptoSaid : Prop := fnExactShrUpToUptoRow.holds Try.pinned (OpenSpec.upto fnExactShrUpToSpec)

/-- 'laws.FnExactShrDue', WHERE WHAT IT READS IS OF BULK AT MOST 1048576: true; the input reads as it did. -/
def fnExactShrDueUptoRow : OpenClaim := { program := "ytgcobajekffmoau", sum := "403d6e22c96e40ee2819733012b010646be43a3e41271fb897c4a87b7e2b357a", func := "loop.example/panework/laws.FnExactShrDue", spec := "fnExactShrDue", apart := false, narrowed := true }
def FnExactShrDueUptoSaid : Prop := fnExactShrDueUptoRow.holds Try.pinned (OpenSpec.upto fnExactShrDueSpec)

end Rows
end Go.Proofs.Ytgcobajekffmoau
