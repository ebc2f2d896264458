/-
  No cell of these rows narrows 'for every input' (looked for: loops, veiled, ifaces, maps, wideKeys, modest, calm, conditions, laid).
  DERIVED. THE GIVEN ROWS OF THIS SEAT. 4 by the template 'for every input the law returns true; each argument reads behind the call as it read before'; 0 by the template 'total and deterministic' (their statements: YtgcobajekffmoabTotals.lean).
  GIVEN WITH THE SEED: the statements are not yours to turn. If you find one false, say at which input.
  Laid BY PROGRAM, IN A SANDBOX (cutbox-rows.mjs): the forced cells as the released guide's own fill.sh prints them over the translation 7f781bf42d96ee1e… (all of the seat's roots in one cut). By AI agents, Wed Nov 11 2026. No macro, syntax, notation, axiom, sorry.
-/
import Derived.Test.YtgcobajekffmoabChecked
import GoSem.Claim
import GoSem.ClaimJoined
import GoSem.ClaimMapViews
import Derived.JoinedTies
import Derived.KernelRfl
namespace Go.Proofs.Ytgcobajekffmoab
/- THE CELL 'sum', in the pinned program and in every row, IS THE sha256 OF THE DUMP (.gsa) THAT YtgcobajekffmoabProg.lean LOADS. Nothing in Lean hashes anything: it is a label: what it is worth is what the hold of that sum in a sandbox is worth. -/
noncomputable def Try.pinned : Pinned := { name := "ytgcobajekffmoab", sum := "7f781bf42d96ee1ec36f010638fc9e3788a42f4e3112a4da131175273316e934", checked := Try.checked }
namespace Rows
def none {H : Type} : Left H := { results := [], args := [] }

/-- 'laws.FnTblPart': WHATEVER THE INPUT: true; the input reads as it did. -/
def fnTblPartSpec : ChangeSpec := { name := "fnTblPart", fn := fun _ => fun
  | [d] => { results := [.lit (.bool true)], args := [d] }
  | _ => none }
def fnTblPartRow : OpenClaim := { program := "ytgcobajekffmoab", sum := "7f781bf42d96ee1ec36f010638fc9e3788a42f4e3112a4da131175273316e934", func := "loop.example/panework/laws.FnTblPart", spec := "fnTblPart", unfollowed := true, recurses := true, plainKeys := false, apart := false }
def FnTblPartSaid : Prop := fnTblPartRow.holds Try.pinned (OpenSpec.ofChange fnTblPartSpec)

/-- ITS FALSE NEIGHBOUR: 'it returns false'. Refute it at one input. -/
def fnTblPartWrong : ChangeSpec := { name := "fnTblPart", fn := fun _ => fun
  | [d] => { results := [.lit (.bool false)], args := [d] }
  | _ => none }
def FnTblPartWrongFalsely : Prop := fnTblPartRow.holds Try.pinned (OpenSpec.ofChange fnTblPartWrong)

/-- 'laws.FnTblCells': WHATEVER THE INPUT: true; the input reads as it did. -/
def fnTblCellsSpec : ChangeSpec := { name := "fnTblCells", fn := fun _ => fun
  | [d] => { results := [.lit (.bool true)], args := [d] }
  | _ => none }
def fnTblCellsRow : OpenClaim := { program := "ytgcobajekffmoab", sum := "7f781bf42d96ee1ec36f010638fc9e3788a42f4e3112a4da131175273316e934", func := "loop.example/panework/laws.FnTblCells", spec := "fnTblCells", unfollowed := true, recurses := true, plainKeys := false, apart := false }
def FnTblCellsSaid : Prop := fnTblCellsRow.holds Try.pinned (OpenSpec.ofChange fnTblCellsSpec)

/-- ITS FALSE NEIGHBOUR: 'it returns false'. Refute it at one input. -/
def fnTblCellsWrong : ChangeSpec := { name := "fnTblCells", fn := fun _ => fun
  | [d] => { results := [.lit (.bool false)], args := [d] }
  | _ => none }
def FnTblCellsWrongFalsely : Prop := fnTblCellsRow.holds Try.pinned (OpenSpec.ofChange fnTblCellsWrong)

/-- 'laws.FnGrdSlots': WHATEVER THE INPUT: true; the input reads as it did. -/
def fnGrdSlotsSpec : ChangeSpec := { name := "fnGrdSlots", fn := fun _ => fun
  | [d] => { results := [.lit (.bool true)], args := [d] }
  | _ => none }
def fnGrdSlotsRow : OpenClaim := { program := "ytgcobajekffmoab", sum := "7f781bf42d96ee1ec36f010638fc9e3788a42f4e3112a4da131175273316e934", func := "loop.example/panework/laws.FnGrdSlots", spec := "fnGrdSlots", unfollowed := true, recurses := true, plainKeys := false, apart := false }
def FnGrdSlotsSaid : Prop := fnGrdSlotsRow.holds Try.pinned (OpenSpec.ofChange fnGrdSlotsSpec)

/-- ITS FALSE NEIGHBOUR: 'it returns false'. Refute it at one input. -/
def fnGrdSlotsWrong : ChangeSpec := { name := "fnGrdSlots", fn := fun _ => fun
  | [d] => { results := [.lit (.bool false)], args := [d] }
  | _ => none }
def FnGrdSlotsWrongFalsely : Prop := fnGrdSlotsRow.holds Try.pinned (OpenSpec.ofChange fnGrdSlotsWrong)

/-- 'laws.FnGrdFirst': WHATEVER THE INPUT: true; the input reads as it did. -/
def fnGrdFirstSpec : ChangeSpec := { name := "fnGrdFirst", fn := fun _ => fun
  | [d] => { results := [.lit (.bool true)], args := [d] }
  | _ => none }
def fnGrdFirstRow : OpenClaim := { program := "ytgcobajekffmoab", sum := "7f781bf42d96ee1ec36f010638fc9e3788a42f4e3112a4da131175273316e934", func := "loop.example/panework/laws.FnGrdFirst", spec := "fnGrdFirst", unfollowed := true, recurses := true, plainKeys := false, apart := false }
def FnGrdFirstSaid : Prop := fnGrdFirstRow.holds Try.pinned (OpenSpec.ofChange fnGrdFirstSpec)

/-- ITS FALSE NEIGHBOUR: 'it returns false'. Refute it at one input. -/
def fnGrdFirstWrong : ChangeSpec := { name := "fnGrdFirst", fn := fun _ => fun
  | [d] => { results := [.lit (.bool false)], args := [d] }
  | _ => none }
def FnGrdFirstWrongFalsely : Prop := fnGrdFirstRow.holds Try.pinned (OpenSpec.ofChange fnGrdFirstWrong)

/- THE SECOND FORM. 'bulk': how many values and letters a reading holds, each counted each time it is reached (what is shared counts as often as it is met; a slice's spare places count too). A statement '..UptoSaid' is the law's where the arguments, and the package variables that the reading takes, are together of bulk at most 1048576: NARROWER than '..Said'. Prove '..Said' where nothing that the law and all that it calls make is longer than what came in: it says more and counts as full. Else prove '..UptoSaid'. A law counts once. -/
mutual
def uptoBulk {H : Type} : DataW H → Nat
  | .lit (.string bytes) => bytes.length + 1
  | .lit _ => 1
  | .nil => 1
  | .ptr d => uptoBulk d + 1
  | .slice elems spare => uptoBulkAll elems + uptoBulkAll spare + 1
  | .agg parts => uptoBulkAll parts + 1
  | .iface _ d => uptoBulk d + 1
  | .map entries => uptoBulkEntries entries + 1
  | .held _ => 1
def uptoBulkAll {H : Type} : List (DataW H) → Nat
  | [] => 0
  | d :: r => uptoBulk d + uptoBulkAll r
def uptoBulkEntries {H : Type} : List (Lit × DataW H) → Nat
  | [] => 0
  | x :: r => uptoBulkEntry x + uptoBulkEntries r
def uptoBulkEntry {H : Type} : Lit × DataW H → Nat
  | (.string bytes, d) => bytes.length + uptoBulk d + 1
  | (_, d) => uptoBulk d + 1
 end
def uptoSmall : (H : Type) → List (DataW H) → Bool := fun _ ds => decide (uptoBulkAll ds ≤ 1048576)
def OpenSpec.upto (s : _root_.Go.ChangeSpec) : _root_.Go.OpenSpec := { _root_.Go.OpenSpec.ofChange s with cond := some uptoSmall }

/-- 'laws.FnTblPart', WHERE WHAT IT READS IS OF BULK AT MOST 1048576: true; the input reads as it did. -/
def fnTblPartUptoRow : OpenClaim := { program := "ytgcobajekffmoab", sum := "7f781bf42d96ee1ec36f010638fc9e3788a42f4e3112a4da131175273316e934", func := "loop.example/panework/laws.FnTblPart", spec := "fnTblPart", unfollowed := true, recurses := true, plainKeys := false, apart := false, narrowed := true }
def FnTblPartUptoSaid : Prop := fnTblPartUptoRow.holds Try.pinned (OpenSpec.upto fnTblPartSpec)

/-- 'laws.FnTblCells', WHERE WHAT IT READS IS OF BULK AT MOST 1048576: true; the input reads as it did. -/
def fnTblCellsUptoRow : OpenClaim := { program := "ytgcobajekffmoab", sum := "7f781bf42d96ee1ec36f010638fc9e3788a42f4e3112a4da131175273316e934", func := "loop.example/panework/laws.FnTblCells", spec := "fnTblCells", unfollowed := true, recurses := true, plainKeys := false, apart := false, narrowed := true }
def FnTblCellsUptoSaid : Prop := fnTblCellsUptoRow.holds Try.pinned (OpenSpec.upto fnTblCellsSpec)

/-- 'laws.FnGrdSlots', WHERE WHAT IT READS IS OF BULK AT MOST 1048576: true; the input reads as it did. -/
def fnGrdSlotsUptoRow : OpenClaim := { program := "ytgcobajekffmoab", sum := "7f781bf42d96ee1ec36f010638fc9e3788a42f4e3112a4da131175273316e934", func := "loop.example/panework/laws.FnGrdSlots", spec := "fnGrdSlots", unfollowed := true, recurses := true, plainKeys := false, apart := false, narrowed := true }
def FnGrdSlotsUptoSaid : Prop := fnGrdSlotsUptoRow.holds Try.pinned (OpenSpec.upto fnGrdSlotsSpec)

/-- 'laws.FnGrdFirst', WHERE WHAT IT READS IS OF BULK AT MOST 1048576: true; the input reads as it did. -/
def fnGrdFirstUptoRow : OpenClaim := { program := "ytgcobajekffmoab", sum := "7f781bf42d96ee1ec36f010638fc9e3788a42f4e3112a4da131175273316e934", func := "loop.example/panework/laws.FnGrdFirst", spec := "fnGrdFirst", unfollowed := true, recurses := true, plainKeys := false, apart := false, narrowed := true }
def FnGrdFirstUptoSaid : Prop := fnGrdFirstUptoRow.holds Try.pinned (OpenSpec.upto fnGrdFirstSpec)

end Rows
end Go.Proofs.Ytgcobajekffmoab
