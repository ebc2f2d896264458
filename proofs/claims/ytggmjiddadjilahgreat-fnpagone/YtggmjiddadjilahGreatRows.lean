/-
  No cell of these rows narrows 'for every input' (looked for: loops, veiled, ifaces, maps, wideKeys, modest, calm, conditions, laid).
  DERIVED. THE GIVEN ROWS OF THIS SEAT. 6 by the template 'for every input the law returns true; each argument reads behind the call as it read before'; 0 by the template 'total and deterministic' (their statements: YtggmjiddadjilahGreatTotals.lean).
  GIVEN WITH THE SEED: the statements are not yours to turn. If you find one false, say at which input.
  Laid BY PROGRAM, IN A SANDBOX (cutbox-rows.mjs): the forced cells as the released guide's own fill.sh prints them over the translation 583cf2fe9e08de01… (all of the seat's roots in one cut). By AI agents, Wed Nov 11 2026. No macro, syntax, notation, axiom, sorry.
-/
import Derived.Test.YtggmjiddadjilahGreatChecked
import GoSem.Claim
import GoSem.ClaimJoined
import GoSem.ClaimMapViews
import Derived.JoinedTies
import Derived.KernelRfl
namespace Go.Proofs.YtggmjiddadjilahGreat
/- THE CELL 'sum', in the pinned program and in every row, IS THE sha256 OF THE DUMP (.gsa) THAT YtggmjiddadjilahGreatProg.lean LOADS. Nothing in Lean hashes anything: it is a label: what it is worth is what the hold of that sum in a sandbox is worth. -/
noncomputable def Tryz.pinned : Pinned := { name := "ytggmjiddadjilahgreat", sum := "583cf2fe9e08de0157fbbc3c91791ce2b1dbb90677cd9bc9bf37d1831b9a46dd", checked := Tryz.checked }
namespace Rows
def none {H : Type} : Left H := { results := [], args := [] }

/-- 'laws.FnPagHigh': WHATEVER THE INPUT: true; the input reads as it did. -/
def fnPagHighSpec : ChangeSpec := { name := "fnPagHigh", fn := fun _ => fun
  | [d] => { results := [.lit (.bool true)], args := [d] }
  | _ => none }
def fnPagHighRow : OpenClaim := { program := "ytggmjiddadjilahgreat", sum := "583cf2fe9e08de0157fbbc3c91791ce2b1dbb90677cd9bc9bf37d1831b9a46dd", func := "loop.example/panework/laws.FnPagHigh", spec := "fnPagHigh", inPlace := ["internal/abi.NoEscape"], unfollowed := true, recurses := true, plainKeys := false, apart := false }
def FnPagHighSaid : Prop := fnPagHighRow.holds Tryz.pinned (OpenSpec.ofChange fnPagHighSpec)

/-- ITS FALSE NEIGHBOUR: 'it returns false'. Refute it at one input. -/
def fnPagHighWrong : ChangeSpec := { name := "fnPagHigh", fn := fun _ => fun
  | [d] => { results := [.lit (.bool false)], args := [d] }
  | _ => none }
def FnPagHighWrongFalsely : Prop := fnPagHighRow.holds Tryz.pinned (OpenSpec.ofChange fnPagHighWrong)

/-- 'laws.FnPagWhole': WHATEVER THE INPUT: true; the input reads as it did. -/
def fnPagWholeSpec : ChangeSpec := { name := "fnPagWhole", fn := fun _ => fun
  | [d] => { results := [.lit (.bool true)], args := [d] }
  | _ => none }
def fnPagWholeRow : OpenClaim := { program := "ytggmjiddadjilahgreat", sum := "583cf2fe9e08de0157fbbc3c91791ce2b1dbb90677cd9bc9bf37d1831b9a46dd", func := "loop.example/panework/laws.FnPagWhole", spec := "fnPagWhole", inPlace := ["internal/abi.NoEscape"], unfollowed := true, recurses := true, plainKeys := false, apart := false }
def FnPagWholeSaid : Prop := fnPagWholeRow.holds Tryz.pinned (OpenSpec.ofChange fnPagWholeSpec)

/-- ITS FALSE NEIGHBOUR: 'it returns false'. Refute it at one input. -/
def fnPagWholeWrong : ChangeSpec := { name := "fnPagWhole", fn := fun _ => fun
  | [d] => { results := [.lit (.bool false)], args := [d] }
  | _ => none }
def FnPagWholeWrongFalsely : Prop := fnPagWholeRow.holds Tryz.pinned (OpenSpec.ofChange fnPagWholeWrong)

/-- 'laws.FnPagHead': WHATEVER THE INPUT: true; the input reads as it did. -/
def fnPagHeadSpec : ChangeSpec := { name := "fnPagHead", fn := fun _ => fun
  | [d] => { results := [.lit (.bool true)], args := [d] }
  | _ => none }
def fnPagHeadRow : OpenClaim := { program := "ytggmjiddadjilahgreat", sum := "583cf2fe9e08de0157fbbc3c91791ce2b1dbb90677cd9bc9bf37d1831b9a46dd", func := "loop.example/panework/laws.FnPagHead", spec := "fnPagHead", inPlace := ["internal/abi.NoEscape"], unfollowed := true, recurses := true, plainKeys := false, apart := false }
def FnPagHeadSaid : Prop := fnPagHeadRow.holds Tryz.pinned (OpenSpec.ofChange fnPagHeadSpec)

/-- ITS FALSE NEIGHBOUR: 'it returns false'. Refute it at one input. -/
def fnPagHeadWrong : ChangeSpec := { name := "fnPagHead", fn := fun _ => fun
  | [d] => { results := [.lit (.bool false)], args := [d] }
  | _ => none }
def FnPagHeadWrongFalsely : Prop := fnPagHeadRow.holds Tryz.pinned (OpenSpec.ofChange fnPagHeadWrong)

/-- 'laws.FnPagFew': WHATEVER THE INPUT: true; the input reads as it did. -/
def fnPagFewSpec : ChangeSpec := { name := "fnPagFew", fn := fun _ => fun
  | [d] => { results := [.lit (.bool true)], args := [d] }
  | _ => none }
def fnPagFewRow : OpenClaim := { program := "ytggmjiddadjilahgreat", sum := "583cf2fe9e08de0157fbbc3c91791ce2b1dbb90677cd9bc9bf37d1831b9a46dd", func := "loop.example/panework/laws.FnPagFew", spec := "fnPagFew", inPlace := ["internal/abi.NoEscape"], unfollowed := true, recurses := true, plainKeys := false, apart := false }
def FnPagFewSaid : Prop := fnPagFewRow.holds Tryz.pinned (OpenSpec.ofChange fnPagFewSpec)

/-- ITS FALSE NEIGHBOUR: 'it returns false'. Refute it at one input. -/
def fnPagFewWrong : ChangeSpec := { name := "fnPagFew", fn := fun _ => fun
  | [d] => { results := [.lit (.bool false)], args := [d] }
  | _ => none }
def FnPagFewWrongFalsely : Prop := fnPagFewRow.holds Tryz.pinned (OpenSpec.ofChange fnPagFewWrong)

/-- 'laws.FnPagOne': WHATEVER THE INPUT: true; the input reads as it did. -/
def fnPagOneSpec : ChangeSpec := { name := "fnPagOne", fn := fun _ => fun
  | [d] => { results := [.lit (.bool true)], args := [d] }
  | _ => none }
def fnPagOneRow : OpenClaim := { program := "ytggmjiddadjilahgreat", sum := "583cf2fe9e08de0157fbbc3c91791ce2b1dbb90677cd9bc9bf37d1831b9a46dd", func := "loop.example/panework/laws.FnPagOne", spec := "fnPagOne", inPlace := ["internal/abi.NoEscape"], unfollowed := true, recurses := true, plainKeys := false, apart := false }
def FnPagOneSaid : Prop := fnPagOneRow.holds Tryz.pinned (OpenSpec.ofChange fnPagOneSpec)

/-- ITS FALSE NEIGHBOUR: 'it returns false'. Refute it at one input. -/
def fnPagOneWrong : ChangeSpec := { name := "fnPagOne", fn := fun _ => fun
  | [d] => { results := [.lit (.bool false)], args := [d] }
  | _ => none }
def FnPagOneWrongFalsely : Prop := fnPagOneRow.holds Tryz.pinned (OpenSpec.ofChange fnPagOneWrong)

/-- 'laws.FnPagRow': WHATEVER THE INPUT: true; the input reads as it did. -/
def fnPagRowSpec : ChangeSpec := { name := "fnPagRow", fn := fun _ => fun
  | [d1, d2] => { results := [.lit (.bool true)], args := [d1, d2] }
  | _ => none }
def fnPagRowRow : OpenClaim := { program := "ytggmjiddadjilahgreat", sum := "583cf2fe9e08de0157fbbc3c91791ce2b1dbb90677cd9bc9bf37d1831b9a46dd", func := "loop.example/panework/laws.FnPagRow", spec := "fnPagRow", inPlace := ["internal/abi.NoEscape"], unfollowed := true, recurses := true, plainKeys := false, apart := false }
def FnPagRowSaid : Prop := fnPagRowRow.holds Tryz.pinned (OpenSpec.ofChange fnPagRowSpec)

/-- ITS FALSE NEIGHBOUR: 'it returns false'. Refute it at one input. -/
def fnPagRowWrong : ChangeSpec := { name := "fnPagRow", fn := fun _ => fun
  | [d1, d2] => { results := [.lit (.bool false)], args := [d1, d2] }
  | _ => none }
def FnPagRowWrongFalsely : Prop := fnPagRowRow.holds Tryz.pinned (OpenSpec.ofChange fnPagRowWrong)

/- THE SECOND FORM. 'bulk': how many values and letters a reading holds, each counted each time it is reached (what is shared counts as often as it is met; a slice's spare places count too). A statement '..UptoSaid' is the law's where the arguments, and the package variables that the reading takes, are together of bulk at most 1048576: NARROWER than '..Said'. Prove '..Said' where nothing that the law and all that it calls make is longer than what came in: it says more and counts as full. Else prove '..UptoSaid'. A law counts once. -/
mutual
def uptoBulk {H : Type} : DataW H → Nat
  | .lit (.string bytes) => bytes.length + 1
  | .lit _ => 1
  | .nil => 1
  | .ptr d => uptoBulk d + 1
  | .slice elems spare => uptoBulkAll elems + uptoBulkAll spare + 1
  | .agg parts => uptoBulkAll parts + 1
  | .iface _ d => uptoBulk d + 1
  | .map entries => uptoBulkEntries entries + 1
  | .held _ => 1
def uptoBulkAll {H : Type} : List (DataW H) → Nat
  | [] => 0
  | d :: r => uptoBulk d + uptoBulkAll r
def uptoBulkEntries {H : Type} : List (Lit × DataW H) → Nat
  | [] => 0
  | x :: r => uptoBulkEntry x + uptoBulkEntries r
def uptoBulkEntry {H : Type} : Lit × DataW H → Nat
  | (.string bytes, d) => bytes.length + uptoBulk d + 1
  | (_, d) => uptoBulk d + 1
 end
def uptoSmall : (H : Type) → List (DataW H) → Bool := fun _ ds => decide (uptoBulkAll ds ≤ 1048576)
def OpenSpec.upto (s : _root_.Go.ChangeSpec) : _root_.Go.OpenSpec := { _root_.Go.OpenSpec.ofChange s with cond := some uptoSmall }

/-- 'laws.FnPagHigh', WHERE WHAT IT READS IS OF BULK AT MOST 1048576: true; the input reads as it did. -/
def fnPagHighUptoRow : OpenClaim := { program := "ytggmjiddadjilahgreat", sum := "583cf2fe9e08de0157fbbc3c91791ce2b1dbb90677cd9bc9bf37d1831b9a46dd", func := "loop.example/panework/laws.FnPagHigh", spec := "fnPagHigh", inPlace := ["internal/abi.NoEscape"], unfollowed := true, recurses := true, plainKeys := false, apart := false, narrowed := true }
def FnPagHighUptoSaid : Prop := fnPagHighUptoRow.holds Tryz.pinned (OpenSpec.upto fnPagHighSpec)

/-- 'laws.FnPagWhole', WHERE WHAT IT READS IS OF BULK AT MOST 1048576: true; the input reads as it did. -/
def fnPagWholeUptoRow : OpenClaim := { program := "ytggmjiddadjilahgreat", sum := "583cf2fe9e08de0157fbbc3c91791ce2b1dbb90677cd9bc9bf37d1831b9a46dd", func := "loop.example/panework/laws.FnPagWhole", spec := "fnPagWhole", inPlace := ["internal/abi.NoEscape"], unfollowed := true, recurses := true, plainKeys := false, apart := false, narrowed := true }
def FnPagWholeUptoSaid : Prop := fnPagWholeUptoRow.holds Tryz.pinned (OpenSpec.upto fnPagWholeSpec)

/-- 'laws.FnPagHead', WHERE WHAT IT READS IS OF BULK AT MOST 1048576: true; the input reads as it did. -/
def fnPagHeadUptoRow : OpenClaim := { program := "ytggmjiddadjilahgreat", sum := "583cf2fe9e08de0157fbbc3c91791ce2b1dbb90677cd9bc9bf37d1831b9a46dd", func := "loop.example/panework/laws.FnPagHead", spec := "fnPagHead", inPlace := ["internal/abi.NoEscape"], unfollowed := true, recurses := true, plainKeys := false, apart := false, narrowed := true }
def FnPagHeadUptoSaid : Prop := fnPagHeadUptoRow.holds Tryz.pinned (OpenSpec.upto fnPagHeadSpec)

/-- 'laws.FnPagFew', WHERE WHAT IT READS IS OF BULK AT MOST 1048576: true; the input reads as it did. -/
def fnPagFewUptoRow : OpenClaim := { program := "ytggmjiddadjilahgreat", sum := "583cf2fe9e08de0157fbbc3c91791ce2b1dbb90677cd9bc9bf37d1831b9a46dd", func := "loop.example/panework/laws.FnPagFew", spec := "fnPagFew", inPlace := ["internal/abi.NoEscape"], unfollowed := true, recurses := true, plainKeys := false, apart := false, narrowed := true }
def FnPagFewUptoSaid : Prop := fnPagFewUptoRow.holds Tryz.pinned (OpenSpec.upto fnPagFewSpec)

/-- 'laws.FnPagOne', WHERE WHAT IT READS IS OF BULK AT MOST 1048576: true; the input reads as it did. -/
def fnPagOneUptoRow : OpenClaim := { program := "ytggmjiddadjilahgreat", sum := "583cf2fe9e08de0157fbbc3c91791ce2b1dbb90677cd9bc9bf37d1831b9a46dd", func := "loop.example/panework/laws.FnPagOne", spec := "fnPagOne", inPlace := ["internal/abi.NoEscape"], unfollowed := true, recurses := true, plainKeys := false, apart := false, narrowed := true }
def FnPagOneUptoSaid : Prop := fnPagOneUptoRow.holds Tryz.pinned (OpenSpec.upto fnPagOneSpec)

/-- 'laws.FnPagRow', WHERE WHAT IT READS IS OF BULK AT MOST 1048576: true; the input reads as it did. -/
def fnPagRowUptoRow : OpenClaim := { program := "ytggmjiddadjilahgreat", sum := "583cf2fe9e08de0157fbbc3c91791ce2b1dbb90677cd9bc9bf37d1831b9a46dd", func := "loop.example/panework/laws.FnPagRow", spec := "fnPagRow", inPlace := ["internal/abi.NoEscape"], unfollowed := true, recurses := true, plainKeys := false, apart := false, narrowed := true }
def FnPagRowUptoSaid : Prop := fnPagRowUptoRow.holds Tryz.pinned (OpenSpec.upto fnPagRowSpec)

end Rows
end Go.Proofs.YtggmjiddadjilahGreat
