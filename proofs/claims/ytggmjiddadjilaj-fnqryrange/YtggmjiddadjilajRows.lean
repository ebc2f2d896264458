/-
  No cell of these rows narrows 'for every input' (looked for: loops, veiled, ifaces, maps, wideKeys, modest, calm, conditions, laid).
  DERIVED. THE GIVEN ROWS OF THIS SEAT. 5 by the template 'for every input the law returns true; each argument reads behind the call as it read before'; 0 by the template 'total and deterministic' (their statements: YtggmjiddadjilajTotals.lean).
  GIVEN WITH THE SEED: the statements are not yours to turn. If you find one false, say at which input.
  Laid BY PROGRAM, IN A SANDBOX (cutbox-rows.mjs): the forced cells as the released guide's own fill.sh prints them over the translation 6b91d860444a9fe2… (all of the seat's roots in one cut). By AI agents, Wed Nov 11 2026. No macro, syntax, notation, axiom, sorry.
-/
import Derived.Test.YtggmjiddadjilajChecked
import GoSem.Claim
import GoSem.ClaimJoined
import GoSem.ClaimMapViews
import Derived.JoinedTies
import Derived.KernelRfl
namespace Go.Proofs.Ytggmjiddadjilaj
/- THE CELL 'sum', in the pinned program and in every row, IS THE sha256 OF THE DUMP (.gsa) THAT YtggmjiddadjilajProg.lean LOADS. Nothing in Lean hashes anything: it is a label: what it is worth is what the hold of that sum in a sandbox is worth. -/
noncomputable def Try.pinned : Pinned := { name := "ytggmjiddadjilaj", sum := "6b91d860444a9fe2b1dbf4acccabe92c9a46bb266172048f6199c7f60fda8ec2", checked := Try.checked }
namespace Rows
def none {H : Type} : Left H := { results := [], args := [] }

/-- 'laws.FnQryRange': WHATEVER THE INPUT: true; the input reads as it did. -/
def fnQryRangeSpec : ChangeSpec := { name := "fnQryRange", fn := fun _ => fun
  | [d] => { results := [.lit (.bool true)], args := [d] }
  | _ => none }
def fnQryRangeRow : OpenClaim := { program := "ytggmjiddadjilaj", sum := "6b91d860444a9fe2b1dbf4acccabe92c9a46bb266172048f6199c7f60fda8ec2", func := "loop.example/panework/laws.FnQryRange", spec := "fnQryRange", unfollowed := true, recurses := true, plainKeys := false, apart := false }
def FnQryRangeSaid : Prop := fnQryRangeRow.holds Try.pinned (OpenSpec.ofChange fnQryRangeSpec)

/-- ITS FALSE NEIGHBOUR: 'it returns false'. Refute it at one input. -/
def fnQryRangeWrong : ChangeSpec := { name := "fnQryRange", fn := fun _ => fun
  | [d] => { results := [.lit (.bool false)], args := [d] }
  | _ => none }
def FnQryRangeWrongFalsely : Prop := fnQryRangeRow.holds Try.pinned (OpenSpec.ofChange fnQryRangeWrong)

/-- 'laws.FnEdtPut': WHATEVER THE INPUT: true; the input reads as it did. -/
def fnEdtPutSpec : ChangeSpec := { name := "fnEdtPut", fn := fun _ => fun
  | [d] => { results := [.lit (.bool true)], args := [d] }
  | _ => none }
def fnEdtPutRow : OpenClaim := { program := "ytggmjiddadjilaj", sum := "6b91d860444a9fe2b1dbf4acccabe92c9a46bb266172048f6199c7f60fda8ec2", func := "loop.example/panework/laws.FnEdtPut", spec := "fnEdtPut", inPlace := ["slices.overlaps[loop.example/panework/impl.TblCell]"], unfollowed := true, recurses := true, plainKeys := false, apart := false }
def FnEdtPutSaid : Prop := fnEdtPutRow.holds Try.pinned (OpenSpec.ofChange fnEdtPutSpec)

/-- ITS FALSE NEIGHBOUR: 'it returns false'. Refute it at one input. -/
def fnEdtPutWrong : ChangeSpec := { name := "fnEdtPut", fn := fun _ => fun
  | [d] => { results := [.lit (.bool false)], args := [d] }
  | _ => none }
def FnEdtPutWrongFalsely : Prop := fnEdtPutRow.holds Try.pinned (OpenSpec.ofChange fnEdtPutWrong)

/-- 'laws.FnEdtTake': WHATEVER THE INPUT: true; the input reads as it did. -/
def fnEdtTakeSpec : ChangeSpec := { name := "fnEdtTake", fn := fun _ => fun
  | [d] => { results := [.lit (.bool true)], args := [d] }
  | _ => none }
def fnEdtTakeRow : OpenClaim := { program := "ytggmjiddadjilaj", sum := "6b91d860444a9fe2b1dbf4acccabe92c9a46bb266172048f6199c7f60fda8ec2", func := "loop.example/panework/laws.FnEdtTake", spec := "fnEdtTake", inPlace := ["slices.overlaps[loop.example/panework/impl.TblCell]"], unfollowed := true, recurses := true, plainKeys := false, apart := false }
def FnEdtTakeSaid : Prop := fnEdtTakeRow.holds Try.pinned (OpenSpec.ofChange fnEdtTakeSpec)

/-- ITS FALSE NEIGHBOUR: 'it returns false'. Refute it at one input. -/
def fnEdtTakeWrong : ChangeSpec := { name := "fnEdtTake", fn := fun _ => fun
  | [d] => { results := [.lit (.bool false)], args := [d] }
  | _ => none }
def FnEdtTakeWrongFalsely : Prop := fnEdtTakeRow.holds Try.pinned (OpenSpec.ofChange fnEdtTakeWrong)

/-- 'laws.FnEdtText': WHATEVER THE INPUT: true; the input reads as it did. -/
def fnEdtTextSpec : ChangeSpec := { name := "fnEdtText", fn := fun _ => fun
  | [d] => { results := [.lit (.bool true)], args := [d] }
  | _ => none }
def fnEdtTextRow : OpenClaim := { program := "ytggmjiddadjilaj", sum := "6b91d860444a9fe2b1dbf4acccabe92c9a46bb266172048f6199c7f60fda8ec2", func := "loop.example/panework/laws.FnEdtText", spec := "fnEdtText", unfollowed := true, recurses := true, plainKeys := false, apart := false }
def FnEdtTextSaid : Prop := fnEdtTextRow.holds Try.pinned (OpenSpec.ofChange fnEdtTextSpec)

/-- ITS FALSE NEIGHBOUR: 'it returns false'. Refute it at one input. -/
def fnEdtTextWrong : ChangeSpec := { name := "fnEdtText", fn := fun _ => fun
  | [d] => { results := [.lit (.bool false)], args := [d] }
  | _ => none }
def FnEdtTextWrongFalsely : Prop := fnEdtTextRow.holds Try.pinned (OpenSpec.ofChange fnEdtTextWrong)

/-- 'laws.FnEdtSpan': WHATEVER THE INPUT: true; the input reads as it did. -/
def fnEdtSpanSpec : ChangeSpec := { name := "fnEdtSpan", fn := fun _ => fun
  | [d] => { results := [.lit (.bool true)], args := [d] }
  | _ => none }
def fnEdtSpanRow : OpenClaim := { program := "ytggmjiddadjilaj", sum := "6b91d860444a9fe2b1dbf4acccabe92c9a46bb266172048f6199c7f60fda8ec2", func := "loop.example/panework/laws.FnEdtSpan", spec := "fnEdtSpan", unfollowed := true, recurses := true, plainKeys := false, apart := false }
def FnEdtSpanSaid : Prop := fnEdtSpanRow.holds Try.pinned (OpenSpec.ofChange fnEdtSpanSpec)

/-- ITS FALSE NEIGHBOUR: 'it returns false'. Refute it at one input. -/
def fnEdtSpanWrong : ChangeSpec := { name := "fnEdtSpan", fn := fun _ => fun
  | [d] => { results := [.lit (.bool false)], args := [d] }
  | _ => none }
def FnEdtSpanWrongFalsely : Prop := fnEdtSpanRow.holds Try.pinned (OpenSpec.ofChange fnEdtSpanWrong)

/- THE SECOND FORM. 'bulk': how many values and letters a reading holds, each counted each time it is reached (what is shared counts as often as it is met; a slice's spare places count too). A statement '..UptoSaid' is the law's where the arguments, and the package variables that the reading takes, are together of bulk at most 1048576: NARROWER than '..Said'. Prove '..Said' where nothing that the law and all that it calls make is longer than what came in: it says more and counts as full. Else prove '..UptoSaid'. A law counts once. -/
mutual
def uptoBulk {H : Type} : DataW H → Nat
  | .lit (.string bytes) => bytes.length + 1
  | .lit _ => 1
  | .nil => 1
  | .ptr d => uptoBulk d + 1
  | .slice elems spare => uptoBulkAll elems + uptoBulkAll spare + 1
  | .agg parts => uptoBulkAll parts + 1
  | .iface _ d => uptoBulk d + 1
  | .map entries => uptoBulkEntries entries + 1
  | .held _ => 1
def uptoBulkAll {H : Type} : List (DataW H) → Nat
  | [] => 0
  | d :: r => uptoBulk d + uptoBulkAll r
def uptoBulkEntries {H : Type} : List (Lit × DataW H) → Nat
  | [] => 0
  | x :: r => uptoBulkEntry x + uptoBulkEntries r
def uptoBulkEntry {H : Type} : Lit × DataW H → Nat
  | (.string bytes, d) => bytes.length + uptoBulk d + 1
  | (_, d) => uptoBulk d + 1
 end
def uptoSmall : (H : Type) → List (DataW H) → Bool := fun _ ds => decide (uptoBulkAll ds ≤ 1048576)
def OpenSpec.upto (s : _root_.Go.ChangeSpec) : _root_.Go.OpenSpec := { _root_.Go.OpenSpec.ofChange s with cond := some uptoSmall }

/-- 'laws.FnQryRange', WHERE WHAT IT READS IS OF BULK AT MOST 1048576: true; the input reads as it did. -/
def fnQryRangeUptoRow : OpenClaim := { program := "ytggmjiddadjilaj", sum := "6b91d860444a9fe2b1dbf4acccabe92c9a46bb266172048f6199c7f60fda8ec2", func := "loop.example/panework/laws.FnQryRange", spec := "fnQryRange", unfollowed := true, recurses := true, plainKeys := false, apart := false, narrowed := true }
def FnQryRangeUptoSaid : Prop := fnQryRangeUptoRow.holds Try.pinned (OpenSpec.upto fnQryRangeSpec)

/-- 'laws.FnEdtPut', WHERE WHAT IT READS IS OF BULK AT MOST 1048576: true; the input reads as it did. -/
def fnEdtPutUptoRow : OpenClaim := { program := "ytggmjiddadjilaj", sum := "6b91d860444a9fe2b1dbf4acccabe92c9a46bb266172048f6199c7f60fda8ec2", func := "loop.example/panework/laws.FnEdtPut", spec := "fnEdtPut", inPlace := ["slices.overlaps[loop.example/panework/impl.TblCell]"], unfollowed := true, recurses := true, plainKeys := false, apart := false, narrowed := true }
def FnEdtPutUptoSaid : Prop := fnEdtPutUptoRow.holds Try.pinned (OpenSpec.upto fnEdtPutSpec)

/-- 'laws.FnEdtTake', WHERE WHAT IT READS IS OF BULK AT MOST 1048576: true; the input reads as it did. -/
def fnEdtTakeUptoRow : OpenClaim := { program := "ytggmjiddadjilaj", sum := "6b91d860444a9fe2b1dbf4acccabe92c9a46bb266172048f6199c7f60fda8ec2", func := "loop.example/panework/laws.FnEdtTake", spec := "fnEdtTake", inPlace := ["slices.overlaps[loop.example/panework/impl.TblCell]"], unfollowed := true, recurses := true, plainKeys := false, apart := false, narrowed := true }
def FnEdtTakeUptoSaid : Prop := fnEdtTakeUptoRow.holds Try.pinned (OpenSpec.upto fnEdtTakeSpec)

/-- 'laws.FnEdtText', WHERE WHAT IT READS IS OF BULK AT MOST 1048576: true; the input reads as it did. -/
def fnEdtTextUptoRow : OpenClaim := { program := "ytggmjiddadjilaj", sum := "6b91d860444a9fe2b1dbf4acccabe92c9a46bb266172048f6199c7f60fda8ec2", func := "loop.example/panework/laws.FnEdtText", spec := "fnEdtText", unfollowed := true, recurses := true, plainKeys := false, apart := false, narrowed := true }
def FnEdtTextUptoSaid : Prop := fnEdtTextUptoRow.holds Try.pinned (OpenSpec.upto fnEdtTextSpec)

/-- 'laws.FnEdtSpan', WHERE WHAT IT READS IS OF BULK AT MOST 1048576: true; the input reads as it did. -/
def fnEdtSpanUptoRow : OpenClaim := { program := "ytggmjiddadjilaj", sum := "6b91d860444a9fe2b1dbf4acccabe92c9a46bb266172048f6199c7f60fda8ec2", func := "loop.example/panework/laws.FnEdtSpan", spec := "fnEdtSpan", unfollowed := true, recurses := true, plainKeys := false, apart := false, narrowed := true }
def FnEdtSpanUptoSaid : Prop := fnEdtSpanUptoRow.holds Try.pinned (OpenSpec.upto fnEdtSpanSpec)

end Rows
end Go.Proofs.Ytggmjiddadjilaj
