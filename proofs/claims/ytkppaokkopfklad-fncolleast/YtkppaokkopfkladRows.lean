/-
  No cell of these rows narrows 'for every input' (looked for: loops, veiled, ifaces, maps, wideKeys, modest, calm, conditions, laid).
  DERIVED. THE GIVEN ROWS OF THIS SEAT. 6 by the template 'for every input the law returns true; each argument reads behind the call as it read before'; 0 by the template 'total and deterministic' (their statements: YtkppaokkopfkladTotals.lean).
  GIVEN WITH THE SEED: the statements are not yours to turn. If you find one false, say at which input.
  Laid BY PROGRAM, IN A SANDBOX (cutbox-rows.mjs): the forced cells as the released guide's own fill.sh prints them over the translation 7b8e703cd4da045b… (all of the seat's roots in one cut). By AI agents, Wed Nov 11 2026. No macro, syntax, notation, axiom, sorry.
-/
import Derived.Test.YtkppaokkopfkladChecked
import GoSem.Claim
import GoSem.ClaimJoined
import GoSem.ClaimMapViews
import Derived.JoinedTies
import Derived.KernelRfl
namespace Go.Proofs.Ytkppaokkopfklad
/- THE CELL 'sum', in the pinned program and in every row, IS THE sha256 OF THE DUMP (.gsa) THAT YtkppaokkopfkladProg.lean LOADS. Nothing in Lean hashes anything: it is a label: what it is worth is what the hold of that sum in a sandbox is worth. -/
noncomputable def Try.pinned : Pinned := { name := "ytkppaokkopfklad", sum := "7b8e703cd4da045b688222be3eccc5f3a8fb61c9ae89d13429fe49ee04572de9", checked := Try.checked }
namespace Rows
def none {H : Type} : Left H := { results := [], args := [] }

/-- 'laws.FnShrOrder': WHATEVER THE INPUT: true; the input reads as it did. -/
def fnShrOrderSpec : ChangeSpec := { name := "fnShrOrder", fn := fun _ => fun
  | [d] => { results := [.lit (.bool true)], args := [d] }
  | _ => none }
def fnShrOrderRow : OpenClaim := { program := "ytkppaokkopfklad", sum := "7b8e703cd4da045b688222be3eccc5f3a8fb61c9ae89d13429fe49ee04572de9", func := "loop.example/panework/laws.FnShrOrder", spec := "fnShrOrder", unfollowed := true, recurses := true, plainKeys := false, apart := false }
def FnShrOrderSaid : Prop := fnShrOrderRow.holds Try.pinned (OpenSpec.ofChange fnShrOrderSpec)

/-- ITS FALSE NEIGHBOUR: 'it returns false'. Refute it at one input. -/
def fnShrOrderWrong : ChangeSpec := { name := "fnShrOrder", fn := fun _ => fun
  | [d] => { results := [.lit (.bool false)], args := [d] }
  | _ => none }
def FnShrOrderWrongFalsely : Prop := fnShrOrderRow.holds Try.pinned (OpenSpec.ofChange fnShrOrderWrong)

/-- 'laws.FnShrTimes': WHATEVER THE INPUT: true; the input reads as it did. -/
def fnShrTimesSpec : ChangeSpec := { name := "fnShrTimes", fn := fun _ => fun
  | [d] => { results := [.lit (.bool true)], args := [d] }
  | _ => none }
def fnShrTimesRow : OpenClaim := { program := "ytkppaokkopfklad", sum := "7b8e703cd4da045b688222be3eccc5f3a8fb61c9ae89d13429fe49ee04572de9", func := "loop.example/panework/laws.FnShrTimes", spec := "fnShrTimes", unfollowed := true, recurses := true, plainKeys := false, apart := false }
def FnShrTimesSaid : Prop := fnShrTimesRow.holds Try.pinned (OpenSpec.ofChange fnShrTimesSpec)

/-- ITS FALSE NEIGHBOUR: 'it returns false'. Refute it at one input. -/
def fnShrTimesWrong : ChangeSpec := { name := "fnShrTimes", fn := fun _ => fun
  | [d] => { results := [.lit (.bool false)], args := [d] }
  | _ => none }
def FnShrTimesWrongFalsely : Prop := fnShrTimesRow.holds Try.pinned (OpenSpec.ofChange fnShrTimesWrong)

/-- 'laws.FnShrUpTo': WHATEVER THE INPUT: true; the input reads as it did. -/
def fnShrUpToSpec : ChangeSpec := { name := "fnShrUpTo", fn := fun _ => fun
  | [d] => { results := [.lit (.bool true)], args := [d] }
  | _ => none }
def fnShrUpToRow : OpenClaim := { program := "ytkppaokkopfklad", sum := "7b8e703cd4da045b688222be3eccc5f3a8fb61c9ae89d13429fe49ee04572de9", func := "loop.example/panework/laws.FnShrUpTo", spec := "fnShrUpTo", unfollowed := true, recurses := true, plainKeys := false, apart := false }
def FnShrUpToSaid : Prop := fnShrUpToRow.holds Try.pinned (OpenSpec.ofChange fnShrUpToSpec)

/-- ITS FALSE NEIGHBOUR: 'it returns false'. Refute it at one input. -/
def fnShrUpToWrong : ChangeSpec := { name := "fnShrUpTo", fn := fun _ => fun
  | [d] => { results := [.lit (.bool false)], args := [d] }
  | _ => none }
def FnShrUpToWrongFalsely : Prop := fnShrUpToRow.holds Try.pinned (OpenSpec.ofChange fnShrUpToWrong)

/-- 'laws.FnShrDue': WHATEVER THE INPUT: true; the input reads as it did. -/
def fnShrDueSpec : ChangeSpec := { name := "fnShrDue", fn := fun _ => fun
  | [d] => { results := [.lit (.bool true)], args := [d] }
  | _ => none }
def fnShrDueRow : OpenClaim := { program := "ytkppaokkopfklad", sum := "7b8e703cd4da045b688222be3eccc5f3a8fb61c9ae89d13429fe49ee04572de9", func := "loop.example/panework/laws.FnShrDue", spec := "fnShrDue", plainKeys := false, apart := false }
def FnShrDueSaid : Prop := fnShrDueRow.holds Try.pinned (OpenSpec.ofChange fnShrDueSpec)

/-- ITS FALSE NEIGHBOUR: 'it returns false'. Refute it at one input. -/
def fnShrDueWrong : ChangeSpec := { name := "fnShrDue", fn := fun _ => fun
  | [d] => { results := [.lit (.bool false)], args := [d] }
  | _ => none }
def FnShrDueWrongFalsely : Prop := fnShrDueRow.holds Try.pinned (OpenSpec.ofChange fnShrDueWrong)

/-- 'laws.FnColLeast': WHATEVER THE INPUT: true; the input reads as it did. -/
def fnColLeastSpec : ChangeSpec := { name := "fnColLeast", fn := fun _ => fun
  | [d] => { results := [.lit (.bool true)], args := [d] }
  | _ => none }
def fnColLeastRow : OpenClaim := { program := "ytkppaokkopfklad", sum := "7b8e703cd4da045b688222be3eccc5f3a8fb61c9ae89d13429fe49ee04572de9", func := "loop.example/panework/laws.FnColLeast", spec := "fnColLeast", unfollowed := true, recurses := true, plainKeys := false, apart := false }
def FnColLeastSaid : Prop := fnColLeastRow.holds Try.pinned (OpenSpec.ofChange fnColLeastSpec)

/-- ITS FALSE NEIGHBOUR: 'it returns false'. Refute it at one input. -/
def fnColLeastWrong : ChangeSpec := { name := "fnColLeast", fn := fun _ => fun
  | [d] => { results := [.lit (.bool false)], args := [d] }
  | _ => none }
def FnColLeastWrongFalsely : Prop := fnColLeastRow.holds Try.pinned (OpenSpec.ofChange fnColLeastWrong)

/-- 'laws.FnColTight': WHATEVER THE INPUT: true; the input reads as it did. -/
def fnColTightSpec : ChangeSpec := { name := "fnColTight", fn := fun _ => fun
  | [d] => { results := [.lit (.bool true)], args := [d] }
  | _ => none }
def fnColTightRow : OpenClaim := { program := "ytkppaokkopfklad", sum := "7b8e703cd4da045b688222be3eccc5f3a8fb61c9ae89d13429fe49ee04572de9", func := "loop.example/panework/laws.FnColTight", spec := "fnColTight", unfollowed := true, recurses := true, plainKeys := false, apart := false }
def FnColTightSaid : Prop := fnColTightRow.holds Try.pinned (OpenSpec.ofChange fnColTightSpec)

/-- ITS FALSE NEIGHBOUR: 'it returns false'. Refute it at one input. -/
def fnColTightWrong : ChangeSpec := { name := "fnColTight", fn := fun _ => fun
  | [d] => { results := [.lit (.bool false)], args := [d] }
  | _ => none }
def FnColTightWrongFalsely : Prop := fnColTightRow.holds Try.pinned (OpenSpec.ofChange fnColTightWrong)

/- THE SECOND FORM. 'bulk': how many values and letters a reading holds, each counted each time it is reached (what is shared counts as often as it is met; a slice's spare places count too). A statement '..UptoSaid' is the law's where the arguments, and the package variables that the reading takes, are together of bulk at most 1048576: NARROWER than '..Said'. Prove '..Said' where nothing that the law and all that it calls make is longer than what came in: it says more and counts as full. Else prove '..UptoSaid'. A law counts once. -/
mutual
def uptoBulk {H : Type} : DataW H → Nat
  | .lit (.string bytes) => bytes.length + 1
  | .lit _ => 1
  | .nil => 1
  | .ptr d => uptoBulk d + 1
  | .slice elems spare => uptoBulkAll elems + uptoBulkAll spare + 1
  | .agg parts => uptoBulkAll parts + 1
  | .iface _ d => uptoBulk d + 1
  | .map entries => uptoBulkEntries entries + 1
  | .held _ => 1
def uptoBulkAll {H : Type} : List (DataW H) → Nat
  | [] => 0
  | d :: r => uptoBulk d + uptoBulkAll r
def uptoBulkEntries {H : Type} : List (Lit × DataW H) → Nat
  | [] => 0
  | x :: r => uptoBulkEntry x + uptoBulkEntries r
def uptoBulkEntry {H : Type} : Lit × DataW H → Nat
  | (.string bytes, d) => bytes.length + uptoBulk d + 1
  | (_, d) => uptoBulk d + 1
 end
def uptoSmall : (H : Type) → List (DataW H) → Bool := fun _ ds => decide (uptoBulkAll ds ≤ 1048576)
def OpenSpec.upto (s : _root_.Go.ChangeSpec) : _root_.Go.OpenSpec := { _root_.Go.OpenSpec.ofChange s with cond := some uptoSmall }

/-- 'laws.FnShrOrder', WHERE WHAT IT READS IS OF BULK AT MOST 1048576: true; the input reads as it did. -/
def fnShrOrderUptoRow : OpenClaim := { program := "ytkppaokkopfklad", sum := "7b8e703cd4da045b688222be3eccc5f3a8fb61c9ae89d13429fe49ee04572de9", func := "loop.example/panework/laws.FnShrOrder", spec := "fnShrOrder", unfollowed := true, recurses := true, plainKeys := false, apart := false, narrowed := true }
def FnShrOrderUptoSaid : Prop := fnShrOrderUptoRow.holds Try.pinned (OpenSpec.upto fnShrOrderSpec)

/-- 'laws.FnShrTimes', WHERE WHAT IT READS IS OF BULK AT MOST 1048576: true; the input reads as it did. -/
def fnShrTimesUptoRow : OpenClaim := { program := "ytkppaokkopfklad", sum := "7b8e703cd4da045b688222be3eccc5f3a8fb61c9ae89d13429fe49ee04572de9", func := "loop.example/panework/laws.FnShrTimes", spec := "fnShrTimes", unfollowed := true, recurses := true, plainKeys := false, apart := false, narrowed := true }
def FnShrTimesUptoSaid : Prop := fnShrTimesUptoRow.holds Try.pinned (OpenSpec.upto fnShrTimesSpec)

/-- 'laws.FnShrUpTo', WHERE WHAT IT READS IS OF BULK AT MOST 1048576: true; the input reads as it did. -/
def fnShrUpToUptoRow : OpenClaim := { program := "ytkppaokkopfklad", sum := "7b8e703cd4da045b688222be3eccc5f3a8fb61c9ae89d13429fe49ee04572de9", func := "loop.example/panework/laws.FnShrUpTo", spec := "fnShrUpTo", unfollowed := true, recurses := true, plainKeys := false, apart := false, narrowed := true }
def FnShrUpToUptoSaid : Prop := fnShrUpToUptoRow.holds Try.pinned (OpenSpec.upto fnShrUpToSpec)

/-- 'laws.FnShrDue', WHERE WHAT IT READS IS OF BULK AT MOST 1048576: true; the input reads as it did. -/
def fnShrDueUptoRow : OpenClaim := { program := "ytkppaokkopfklad", sum := "7b8e703cd4da045b688222be3eccc5f3a8fb61c9ae89d13429fe49ee04572de9", func := "loop.example/panework/laws.FnShrDue", spec := "fnShrDue", plainKeys := false, apart := false, narrowed := true }
def FnShrDueUptoSaid : Prop := fnShrDueUptoRow.holds Try.pinned (OpenSpec.upto fnShrDueSpec)

/-- 'laws.FnColLeast', WHERE WHAT IT READS IS OF BULK AT MOST 1048576: true; the input reads as it did. -/
def fnColLeastUptoRow : OpenClaim := { program := "ytkppaokkopfklad", sum := "7b8e703cd4da045b688222be3eccc5f3a8fb61c9ae89d13429fe49ee04572de9", func := "loop.example/panework/laws.FnColLeast", spec := "fnColLeast", unfollowed := true, recurses := true, plainKeys := false, apart := false, narrowed := true }
def FnColLeastUptoSaid : Prop := fnColLeastUptoRow.holds Try.pinned (OpenSpec.upto fnColLeastSpec)

/-- 'laws.FnColTight', WHERE WHAT IT READS IS OF BULK AT MOST 1048576: true; the input reads as it did. -/
def fnColTightUptoRow : OpenClaim := { program := "ytkppaokkopfklad", sum := "7b8e703cd4da045b688222be3eccc5f3a8fb61c9ae89d13429fe49ee04572de9", func := "loop.example/panework/laws.FnColTight", spec := "fnColTight", unfollowed := true, recurses := true, plainKeys := false, apart := false, narrowed := true }
def FnColTightUptoSaid : Prop := fnColTightUptoRow.holds Try.pinned (OpenSpec.upto fnColTightSpec)

end Rows
end Go.Proofs.Ytkppaokkopfklad
