/-
  No cell of these rows narrows 'for every input' (looked for: loops, veiled, ifaces, maps, wideKeys, modest, calm, conditions, laid).
  DERIVED. THE GIVEN ROWS OF THIS SEAT. 5 by the template 'for every input the law returns true; each argument reads behind the call as it read before'; 0 by the template 'total and deterministic' (their statements: YtggmjiddadjilacTotals.lean).
  GIVEN WITH THE SEED: the statements are not yours to turn. If you find one false, say at which input.
  Laid BY PROGRAM, IN A SANDBOX (cutbox-rows.mjs): the forced cells as the released guide's own fill.sh prints them over the translation c4112ae649a5dc59… (all of the seat's roots in one cut). By AI agents, Wed Nov 11 2026. No macro, syntax, notation, axiom, sorry.
-/
import Derived.Test.YtggmjiddadjilacChecked
import GoSem.Claim
import GoSem.ClaimJoined
import GoSem.ClaimMapViews
import Derived.JoinedTies
import Derived.KernelRfl
namespace Go.Proofs.Ytggmjiddadjilac
/- THE CELL 'sum', in the pinned program and in every row, IS THE sha256 OF THE DUMP (.gsa) THAT YtggmjiddadjilacProg.lean LOADS. Nothing in Lean hashes anything: it is a label: what it is worth is what the hold of that sum in a sandbox is worth. -/
noncomputable def Try.pinned : Pinned := { name := "ytggmjiddadjilac", sum := "c4112ae649a5dc596d9b40c139e3b6fe2c88030ce2623b75eefe9f85c1f1e334", checked := Try.checked }
namespace Rows
def none {H : Type} : Left H := { results := [], args := [] }

/-- 'laws.FnGrdEmpty': WHATEVER THE INPUT: true; the input reads as it did. -/
def fnGrdEmptySpec : ChangeSpec := { name := "fnGrdEmpty", fn := fun _ => fun
  | [d] => { results := [.lit (.bool true)], args := [d] }
  | _ => none }
def fnGrdEmptyRow : OpenClaim := { program := "ytggmjiddadjilac", sum := "c4112ae649a5dc596d9b40c139e3b6fe2c88030ce2623b75eefe9f85c1f1e334", func := "loop.example/panework/laws.FnGrdEmpty", spec := "fnGrdEmpty", unfollowed := true, recurses := true, plainKeys := false, apart := false }
def FnGrdEmptySaid : Prop := fnGrdEmptyRow.holds Try.pinned (OpenSpec.ofChange fnGrdEmptySpec)

/-- ITS FALSE NEIGHBOUR: 'it returns false'. Refute it at one input. -/
def fnGrdEmptyWrong : ChangeSpec := { name := "fnGrdEmpty", fn := fun _ => fun
  | [d] => { results := [.lit (.bool false)], args := [d] }
  | _ => none }
def FnGrdEmptyWrongFalsely : Prop := fnGrdEmptyRow.holds Try.pinned (OpenSpec.ofChange fnGrdEmptyWrong)

/-- 'laws.FnGrdFind': WHATEVER THE INPUT: true; the input reads as it did. -/
def fnGrdFindSpec : ChangeSpec := { name := "fnGrdFind", fn := fun _ => fun
  | [d] => { results := [.lit (.bool true)], args := [d] }
  | _ => none }
def fnGrdFindRow : OpenClaim := { program := "ytggmjiddadjilac", sum := "c4112ae649a5dc596d9b40c139e3b6fe2c88030ce2623b75eefe9f85c1f1e334", func := "loop.example/panework/laws.FnGrdFind", spec := "fnGrdFind", plainKeys := false, apart := false }
def FnGrdFindSaid : Prop := fnGrdFindRow.holds Try.pinned (OpenSpec.ofChange fnGrdFindSpec)

/-- ITS FALSE NEIGHBOUR: 'it returns false'. Refute it at one input. -/
def fnGrdFindWrong : ChangeSpec := { name := "fnGrdFind", fn := fun _ => fun
  | [d] => { results := [.lit (.bool false)], args := [d] }
  | _ => none }
def FnGrdFindWrongFalsely : Prop := fnGrdFindRow.holds Try.pinned (OpenSpec.ofChange fnGrdFindWrong)

/-- 'laws.FnGrdBlocks': WHATEVER THE INPUT: true; the input reads as it did. -/
def fnGrdBlocksSpec : ChangeSpec := { name := "fnGrdBlocks", fn := fun _ => fun
  | [d] => { results := [.lit (.bool true)], args := [d] }
  | _ => none }
def fnGrdBlocksRow : OpenClaim := { program := "ytggmjiddadjilac", sum := "c4112ae649a5dc596d9b40c139e3b6fe2c88030ce2623b75eefe9f85c1f1e334", func := "loop.example/panework/laws.FnGrdBlocks", spec := "fnGrdBlocks", unfollowed := true, recurses := true, plainKeys := false, apart := false }
def FnGrdBlocksSaid : Prop := fnGrdBlocksRow.holds Try.pinned (OpenSpec.ofChange fnGrdBlocksSpec)

/-- ITS FALSE NEIGHBOUR: 'it returns false'. Refute it at one input. -/
def fnGrdBlocksWrong : ChangeSpec := { name := "fnGrdBlocks", fn := fun _ => fun
  | [d] => { results := [.lit (.bool false)], args := [d] }
  | _ => none }
def FnGrdBlocksWrongFalsely : Prop := fnGrdBlocksRow.holds Try.pinned (OpenSpec.ofChange fnGrdBlocksWrong)

/-- 'laws.FnQrySlots': WHATEVER THE INPUT: true; the input reads as it did. -/
def fnQrySlotsSpec : ChangeSpec := { name := "fnQrySlots", fn := fun _ => fun
  | [d] => { results := [.lit (.bool true)], args := [d] }
  | _ => none }
def fnQrySlotsRow : OpenClaim := { program := "ytggmjiddadjilac", sum := "c4112ae649a5dc596d9b40c139e3b6fe2c88030ce2623b75eefe9f85c1f1e334", func := "loop.example/panework/laws.FnQrySlots", spec := "fnQrySlots", unfollowed := true, recurses := true, plainKeys := false, apart := false }
def FnQrySlotsSaid : Prop := fnQrySlotsRow.holds Try.pinned (OpenSpec.ofChange fnQrySlotsSpec)

/-- ITS FALSE NEIGHBOUR: 'it returns false'. Refute it at one input. -/
def fnQrySlotsWrong : ChangeSpec := { name := "fnQrySlots", fn := fun _ => fun
  | [d] => { results := [.lit (.bool false)], args := [d] }
  | _ => none }
def FnQrySlotsWrongFalsely : Prop := fnQrySlotsRow.holds Try.pinned (OpenSpec.ofChange fnQrySlotsWrong)

/-- 'laws.FnShrSum': WHATEVER THE INPUT: true; the input reads as it did. -/
def fnShrSumSpec : ChangeSpec := { name := "fnShrSum", fn := fun _ => fun
  | [d] => { results := [.lit (.bool true)], args := [d] }
  | _ => none }
def fnShrSumRow : OpenClaim := { program := "ytggmjiddadjilac", sum := "c4112ae649a5dc596d9b40c139e3b6fe2c88030ce2623b75eefe9f85c1f1e334", func := "loop.example/panework/laws.FnShrSum", spec := "fnShrSum", unfollowed := true, recurses := true, plainKeys := false, apart := false }
def FnShrSumSaid : Prop := fnShrSumRow.holds Try.pinned (OpenSpec.ofChange fnShrSumSpec)

/-- ITS FALSE NEIGHBOUR: 'it returns false'. Refute it at one input. -/
def fnShrSumWrong : ChangeSpec := { name := "fnShrSum", fn := fun _ => fun
  | [d] => { results := [.lit (.bool false)], args := [d] }
  | _ => none }
def FnShrSumWrongFalsely : Prop := fnShrSumRow.holds Try.pinned (OpenSpec.ofChange fnShrSumWrong)

/- THE SECOND FORM. 'bulk': how many values and letters a reading holds, each counted each time it is reached (what is shared counts as often as it is met; a slice's spare places count too). A statement '..UptoSaid' is the law's where the arguments, and the package variables that the reading takes, are together of bulk at most 1048576: NARROWER than '..Said'. Prove '..Said' where nothing that the law and all that it calls make is longer than what came in: it says more and counts as full. Else prove '..UptoSaid'. A law counts once. -/
mutual
def uptoBulk {H : Type} : DataW H → Nat
  | .lit (.string bytes) => bytes.length + 1
  | .lit _ => 1
  | .nil => 1
  | .ptr d => uptoBulk d + 1
  | .slice elems spare => uptoBulkAll elems + uptoBulkAll spare + 1
  | .agg parts => uptoBulkAll parts + 1
  | .iface _ d => uptoBulk d + 1
  | .map entries => uptoBulkEntries entries + 1
  | .held _ => 1
def uptoBulkAll {H : Type} : List (DataW H) → Nat
  | [] => 0
  | d :: r => uptoBulk d + uptoBulkAll r
def uptoBulkEntries {H : Type} : List (Lit × DataW H) → Nat
  | [] => 0
  | x :: r => uptoBulkEntry x + uptoBulkEntries r
def uptoBulkEntry {H : Type} : Lit × DataW H → Nat
  | (.string bytes, d) => bytes.length + uptoBulk d + 1
  | (_, d) => uptoBulk d + 1
 end
def uptoSmall : (H : Type) → List (DataW H) → Bool := fun _ ds => decide (uptoBulkAll ds ≤ 1048576)
def OpenSpec.upto (s : _root_.Go.ChangeSpec) : _root_.Go.OpenSpec := { _root_.Go.OpenSpec.ofChange s with cond := some uptoSmall }

/-- 'laws.FnGrdEmpty', WHERE WHAT IT READS IS OF BULK AT MOST 1048576: true; the input reads as it did. -/
def fnGrdEmptyUptoRow : OpenClaim := { program := "ytggmjiddadjilac", sum := "c4112ae649a5dc596d9b40c139e3b6fe2c88030ce2623b75eefe9f85c1f1e334", func := "loop.example/panework/laws.FnGrdEmpty", spec := "fnGrdEmpty", unfollowed := true, recurses := true, plainKeys := false, apart := false, narrowed := true }
def FnGrdEmptyUptoSaid : Prop := fnGrdEmptyUptoRow.holds Try.pinned (OpenSpec.upto fnGrdEmptySpec)

/-- 'laws.FnGrdFind', WHERE WHAT IT READS IS OF BULK AT MOST 1048576: true; the input reads as it did. -/
def fnGrdFindUptoRow : OpenClaim := { program := "ytggmjiddadjilac", sum := "c4112ae649a5dc596d9b40c139e3b6fe2c88030ce2623b75eefe9f85c1f1e334", func := "loop.example/panework/laws.FnGrdFind", spec := "fnGrdFind", plainKeys := false, apart := false, narrowed := true }
def FnGrdFindUptoSaid : Prop := fnGrdFindUptoRow.holds Try.pinned (OpenSpec.upto fnGrdFindSpec)

/-- 'laws.FnGrdBlocks', WHERE WHAT IT READS IS OF BULK AT MOST 1048576: true; the input reads as it did. -/
def fnGrdBlocksUptoRow : OpenClaim := { program := "ytggmjiddadjilac", sum := "c4112ae649a5dc596d9b40c139e3b6fe2c88030ce2623b75eefe9f85c1f1e334", func := "loop.example/panework/laws.FnGrdBlocks", spec := "fnGrdBlocks", unfollowed := true, recurses := true, plainKeys := false, apart := false, narrowed := true }
def FnGrdBlocksUptoSaid : Prop := fnGrdBlocksUptoRow.holds Try.pinned (OpenSpec.upto fnGrdBlocksSpec)

/-- 'laws.FnQrySlots', WHERE WHAT IT READS IS OF BULK AT MOST 1048576: true; the input reads as it did. -/
def fnQrySlotsUptoRow : OpenClaim := { program := "ytggmjiddadjilac", sum := "c4112ae649a5dc596d9b40c139e3b6fe2c88030ce2623b75eefe9f85c1f1e334", func := "loop.example/panework/laws.FnQrySlots", spec := "fnQrySlots", unfollowed := true, recurses := true, plainKeys := false, apart := false, narrowed := true }
def FnQrySlotsUptoSaid : Prop := fnQrySlotsUptoRow.holds Try.pinned (OpenSpec.upto fnQrySlotsSpec)

/-- 'laws.FnShrSum', WHERE WHAT IT READS IS OF BULK AT MOST 1048576: true; the input reads as it did. -/
def fnShrSumUptoRow : OpenClaim := { program := "ytggmjiddadjilac", sum := "c4112ae649a5dc596d9b40c139e3b6fe2c88030ce2623b75eefe9f85c1f1e334", func := "loop.example/panework/laws.FnShrSum", spec := "fnShrSum", unfollowed := true, recurses := true, plainKeys := false, apart := false, narrowed := true }
def FnShrSumUptoSaid : Prop := fnShrSumUptoRow.holds Try.pinned (OpenSpec.upto fnShrSumSpec)

end Rows
end Go.Proofs.Ytggmjiddadjilac
