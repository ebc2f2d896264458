/-
  No cell of these rows narrows 'for every input' (looked for: loops, veiled, ifaces, maps, wideKeys, modest, calm, conditions, laid).
  DERIVED. THE GIVEN ROWS OF THIS SEAT. 5 by the template 'for every input the law returns true; each argument reads behind the call as it read before'; 0 by the template 'total and deterministic' (their statements: YtggmjiddadjilaoTotals.lean).
  GIVEN WITH THE SEED: the statements are not yours to turn. If you find one false, say at which input.
  Laid BY PROGRAM, IN A SANDBOX (cutbox-rows.mjs): the forced cells as the released guide's own fill.sh prints them over the translation d6863367a0a993b2… (all of the seat's roots in one cut). By AI agents, Wed Nov 11 2026. No macro, syntax, notation, axiom, sorry.
-/
import Derived.Test.YtggmjiddadjilaoChecked
import GoSem.Claim
import GoSem.ClaimJoined
import GoSem.ClaimMapViews
import Derived.JoinedTies
import Derived.KernelRfl
namespace Go.Proofs.Ytggmjiddadjilao
/- THE CELL 'sum', in the pinned program and in every row, IS THE sha256 OF THE DUMP (.gsa) THAT YtggmjiddadjilaoProg.lean LOADS. Nothing in Lean hashes anything: it is a label: what it is worth is what the hold of that sum in a sandbox is worth. -/
noncomputable def Try.pinned : Pinned := { name := "ytggmjiddadjilao", sum := "d6863367a0a993b21954edf0be34ca0d69937c64ff8a41dc8089c26db7c74fdd", checked := Try.checked }
namespace Rows
def none {H : Type} : Left H := { results := [], args := [] }

/-- 'laws.FnExactQryArea': WHATEVER THE INPUT: true; the input reads as it did. -/
def fnExactQryAreaSpec : ChangeSpec := { name := "fnExactQryArea", fn := fun _ => fun
  | [d] => { results := [.lit (.bool true)], args := [d] }
  | _ => none }
def fnExactQryAreaRow : OpenClaim := { program := "ytggmjiddadjilao", sum := "d6863367a0a993b21954edf0be34ca0d69937c64ff8a41dc8089c26db7c74fdd", func := "loop.example/panework/laws.FnExactQryArea", spec := "fnExactQryArea", plainKeys := false, apart := false }
def FnExactQryAreaSaid : Prop := fnExactQryAreaRow.holds Try.pinned (OpenSpec.ofChange fnExactQryAreaSpec)

/-- ITS FALSE NEIGHBOUR: 'it returns false'. Refute it at one input. -/
def fnExactQryAreaWrong : ChangeSpec := { name := "fnExactQryArea", fn := fun _ => fun
  | [d] => { results := [.lit (.bool false)], args := [d] }
  | _ => none }
def FnExactQryAreaWrongFalsely : Prop := fnExactQryAreaRow.holds Try.pinned (OpenSpec.ofChange fnExactQryAreaWrong)

/-- 'laws.FnExactQrySlots': WHATEVER THE INPUT: true; the input reads as it did. -/
def fnExactQrySlotsSpec : ChangeSpec := { name := "fnExactQrySlots", fn := fun _ => fun
  | [d] => { results := [.lit (.bool true)], args := [d] }
  | _ => none }
def fnExactQrySlotsRow : OpenClaim := { program := "ytggmjiddadjilao", sum := "d6863367a0a993b21954edf0be34ca0d69937c64ff8a41dc8089c26db7c74fdd", func := "loop.example/panework/laws.FnExactQrySlots", spec := "fnExactQrySlots", unfollowed := true, recurses := true, plainKeys := false, apart := false }
def FnExactQrySlotsSaid : Prop := fnExactQrySlotsRow.holds Try.pinned (OpenSpec.ofChange fnExactQrySlotsSpec)

/-- ITS FALSE NEIGHBOUR: 'it returns false'. Refute it at one input. -/
def fnExactQrySlotsWrong : ChangeSpec := { name := "fnExactQrySlots", fn := fun _ => fun
  | [d] => { results := [.lit (.bool false)], args := [d] }
  | _ => none }
def FnExactQrySlotsWrongFalsely : Prop := fnExactQrySlotsRow.holds Try.pinned (OpenSpec.ofChange fnExactQrySlotsWrong)

/-- 'laws.FnExactEdtPut': WHATEVER THE INPUT: true; the input reads as it did. -/
def fnExactEdtPutSpec : ChangeSpec := { name := "fnExactEdtPut", fn := fun _ => fun
  | [d1, d2, d3, d4] => { results := [.lit (.bool true)], args := [d1, d2, d3, d4] }
  | _ => none }
def fnExactEdtPutRow : OpenClaim := { program := "ytggmjiddadjilao", sum := "d6863367a0a993b21954edf0be34ca0d69937c64ff8a41dc8089c26db7c74fdd", func := "loop.example/panework/laws.FnExactEdtPut", spec := "fnExactEdtPut", inPlace := ["slices.overlaps[loop.example/panework/impl.TblCell]"], unfollowed := true, recurses := true, plainKeys := false, apart := false }
def FnExactEdtPutSaid : Prop := fnExactEdtPutRow.holds Try.pinned (OpenSpec.ofChange fnExactEdtPutSpec)

/-- ITS FALSE NEIGHBOUR: 'it returns false'. Refute it at one input. -/
def fnExactEdtPutWrong : ChangeSpec := { name := "fnExactEdtPut", fn := fun _ => fun
  | [d1, d2, d3, d4] => { results := [.lit (.bool false)], args := [d1, d2, d3, d4] }
  | _ => none }
def FnExactEdtPutWrongFalsely : Prop := fnExactEdtPutRow.holds Try.pinned (OpenSpec.ofChange fnExactEdtPutWrong)

/-- 'laws.FnExactEdtTake': WHATEVER THE INPUT: true; the input reads as it did. -/
def fnExactEdtTakeSpec : ChangeSpec := { name := "fnExactEdtTake", fn := fun _ => fun
  | [d1, d2, d3] => { results := [.lit (.bool true)], args := [d1, d2, d3] }
  | _ => none }
def fnExactEdtTakeRow : OpenClaim := { program := "ytggmjiddadjilao", sum := "d6863367a0a993b21954edf0be34ca0d69937c64ff8a41dc8089c26db7c74fdd", func := "loop.example/panework/laws.FnExactEdtTake", spec := "fnExactEdtTake", unfollowed := true, recurses := true, plainKeys := false, apart := false }
def FnExactEdtTakeSaid : Prop := fnExactEdtTakeRow.holds Try.pinned (OpenSpec.ofChange fnExactEdtTakeSpec)

/-- ITS FALSE NEIGHBOUR: 'it returns false'. Refute it at one input. -/
def fnExactEdtTakeWrong : ChangeSpec := { name := "fnExactEdtTake", fn := fun _ => fun
  | [d1, d2, d3] => { results := [.lit (.bool false)], args := [d1, d2, d3] }
  | _ => none }
def FnExactEdtTakeWrongFalsely : Prop := fnExactEdtTakeRow.holds Try.pinned (OpenSpec.ofChange fnExactEdtTakeWrong)

/-- 'laws.FnExactEdtRow': WHATEVER THE INPUT: true; the input reads as it did. -/
def fnExactEdtRowSpec : ChangeSpec := { name := "fnExactEdtRow", fn := fun _ => fun
  | [d1, d2] => { results := [.lit (.bool true)], args := [d1, d2] }
  | _ => none }
def fnExactEdtRowRow : OpenClaim := { program := "ytggmjiddadjilao", sum := "d6863367a0a993b21954edf0be34ca0d69937c64ff8a41dc8089c26db7c74fdd", func := "loop.example/panework/laws.FnExactEdtRow", spec := "fnExactEdtRow", inPlace := ["slices.overlaps[loop.example/panework/impl.TblRow]"], unfollowed := true, recurses := true, plainKeys := false, apart := false }
def FnExactEdtRowSaid : Prop := fnExactEdtRowRow.holds Try.pinned (OpenSpec.ofChange fnExactEdtRowSpec)

/-- ITS FALSE NEIGHBOUR: 'it returns false'. Refute it at one input. -/
def fnExactEdtRowWrong : ChangeSpec := { name := "fnExactEdtRow", fn := fun _ => fun
  | [d1, d2] => { results := [.lit (.bool false)], args := [d1, d2] }
  | _ => none }
def FnExactEdtRowWrongFalsely : Prop := fnExactEdtRowRow.holds Try.pinned (OpenSpec.ofChange fnExactEdtRowWrong)

/- THE SECOND FORM. 'bulk': how many values and letters a reading holds, each counted each time it is reached (what is shared counts as often as it is met; a slice's spare places count too). A statement '..UptoSaid' is the law's where the arguments, and the package variables that the reading takes, are together of bulk at most 1048576: NARROWER than '..Said'. Prove '..Said' where nothing that the law and all that it calls make is longer than what came in: it says more and counts as full. Else prove '..UptoSaid'. A law counts once. -/
mutual
def uptoBulk {H : Type} : DataW H → Nat
  | .lit (.string bytes) => bytes.length + 1
  | .lit _ => 1
  | .nil => 1
  | .ptr d => uptoBulk d + 1
  | .slice elems spare => uptoBulkAll elems + uptoBulkAll spare + 1
  | .agg parts => uptoBulkAll parts + 1
  | .iface _ d => uptoBulk d + 1
  | .map entries => uptoBulkEntries entries + 1
  | .held _ => 1
def uptoBulkAll {H : Type} : List (DataW H) → Nat
  | [] => 0
  | d :: r => uptoBulk d + uptoBulkAll r
def uptoBulkEntries {H : Type} : List (Lit × DataW H) → Nat
  | [] => 0
  | x :: r => uptoBulkEntry x + uptoBulkEntries r
def uptoBulkEntry {H : Type} : Lit × DataW H → Nat
  | (.string bytes, d) => bytes.length + uptoBulk d + 1
  | (_, d) => uptoBulk d + 1
 end
def uptoSmall : (H : Type) → List (DataW H) → Bool := fun _ ds => decide (uptoBulkAll ds ≤ 1048576)
def OpenSpec.upto (s : _root_.Go.ChangeSpec) : _root_.Go.OpenSpec := { _root_.Go.OpenSpec.ofChange s with cond := some uptoSmall }

/-- 'laws.FnExactQryArea', WHERE WHAT IT READS IS OF BULK AT MOST 1048576: true; the input reads as it did. -/
def fnExactQryAreaUptoRow : OpenClaim := { program := "ytggmjiddadjilao", sum := "d6863367a0a993b21954edf0be34ca0d69937c64ff8a41dc8089c26db7c74fdd", func := "loop.example/panework/laws.FnExactQryArea", spec := "fnExactQryArea", plainKeys := false, apart := false, narrowed := true }
def FnExactQryAreaUptoSaid : Prop := fnExactQryAreaUptoRow.holds Try.pinned (OpenSpec.upto fnExactQryAreaSpec)

/-- 'laws.FnExactQrySlots', WHERE WHAT IT READS IS OF BULK AT MOST 1048576: true; the input reads as it did. -/
def fnExactQrySlotsUptoRow : OpenClaim := { program := "ytggmjiddadjilao", sum := "d6863367a0a993b21954edf0be34ca0d69937c64ff8a41dc8089c26db7c74fdd", func := "loop.example/panework/laws.FnExactQrySlots", spec := "fnExactQrySlots", unfollowed := true, recurses := true, plainKeys := false, apart := false, narrowed := true }
def FnExactQrySlotsUptoSaid : Prop := fnExactQrySlotsUptoRow.holds Try.pinned (OpenSpec.upto fnExactQrySlotsSpec)

/-- 'laws.FnExactEdtPut', WHERE WHAT IT READS IS OF BULK AT MOST 1048576: true; the input reads as it did. -/
def fnExactEdtPutUptoRow : OpenClaim := { program := "ytggmjiddadjilao", sum := "d6863367a0a993b21954edf0be34ca0d69937c64ff8a41dc8089c26db7c74fdd", func := "loop.example/panework/laws.FnExactEdtPut", spec := "fnExactEdtPut", inPlace := ["slices.overlaps[loop.example/panework/impl.TblCell]"], unfollowed := true, recurses := true, plainKeys := false, apart := false, narrowed := true }
def FnExactEdtPutUptoSaid : Prop := fnExactEdtPutUptoRow.holds Try.pinned (OpenSpec.upto fnExactEdtPutSpec)

/-- 'laws.FnExactEdtTake', WHERE WHAT IT READS IS OF BULK AT MOST 1048576: true; the input reads as it did. -/
def fnExactEdtTakeUptoRow : OpenClaim := { program := "ytggmjiddadjilao", sum := "d6863367a0a993b21954edf0be34ca0d69937c64ff8a41dc8089c26db7c74fdd", func := "loop.example/panework/laws.FnExactEdtTake", spec := "fnExactEdtTake", unfollowed := true, recurses := true, plainKeys := false, apart := false, narrowed := true }
def FnExactEdtTakeUptoSaid : Prop := fnExactEdtTakeUptoRow.holds Try.pinned (OpenSpec.upto fnExactEdtTakeSpec)

/-- 'laws.FnExactEdtRow', WHERE WHAT IT READS IS OF BULK AT MOST 1048576: true; the input reads as it did. -/
def fnExactEdtRowUptoRow : OpenClaim := { program := "ytggmjiddadjilao", sum := "d6863367a0a993b21954edf0be34ca0d69937c64ff8a41dc8089c26db7c74fdd", func := "loop.example/panework/laws.FnExactEdtRow", spec := "fnExactEdtRow", inPlace := ["slices.overlaps[loop.example/panework/impl.TblRow]"], unfollowed := true, recurses := true, plainKeys := false, apart := false, narrowed := true }
def FnExactEdtRowUptoSaid : Prop := fnExactEdtRowUptoRow.holds Try.pinned (OpenSpec.upto fnExactEdtRowSpec)

end Rows
end Go.Proofs.Ytggmjiddadjilao
