/-
  No cell of these rows narrows 'for every input' (looked for: loops, veiled, ifaces, maps, wideKeys, modest, calm, conditions, laid).
  DERIVED. THE GIVEN ROWS OF THIS SEAT. 5 by the template 'for every input the law returns true; each argument reads behind the call as it read before'; 0 by the template 'total and deterministic' (their statements: YtggmjiddadjilalTotals.lean).
  GIVEN WITH THE SEED: the statements are not yours to turn. If you find one false, say at which input.
  Laid BY PROGRAM, IN A SANDBOX (cutbox-rows.mjs): the forced cells as the released guide's own fill.sh prints them over the translation e42fc332675fcab0… (all of the seat's roots in one cut). By AI agents, Wed Nov 11 2026. No macro, syntax, notation, axiom, sorry.
-/
import Derived.Test.YtggmjiddadjilalChecked
import GoSem.Claim
import GoSem.ClaimJoined
import GoSem.ClaimMapViews
import Derived.JoinedTies
import Derived.KernelRfl
namespace Go.Proofs.Ytggmjiddadjilal
/- THE CELL 'sum', in the pinned program and in every row, IS THE sha256 OF THE DUMP (.gsa) THAT YtggmjiddadjilalProg.lean LOADS. Nothing in Lean hashes anything: it is a label: what it is worth is what the hold of that sum in a sandbox is worth. -/
noncomputable def Try.pinned : Pinned := { name := "ytggmjiddadjilal", sum := "e42fc332675fcab0f77d32c1905136ab09aca03aca834770fdd768c37c8709cd", checked := Try.checked }
namespace Rows
def none {H : Type} : Left H := { results := [], args := [] }

/-- 'laws.FnTxtOk': WHATEVER THE INPUT: true; the input reads as it did. -/
def fnTxtOkSpec : ChangeSpec := { name := "fnTxtOk", fn := fun _ => fun
  | [d] => { results := [.lit (.bool true)], args := [d] }
  | _ => none }
def fnTxtOkRow : OpenClaim := { program := "ytggmjiddadjilal", sum := "e42fc332675fcab0f77d32c1905136ab09aca03aca834770fdd768c37c8709cd", func := "loop.example/panework/laws.FnTxtOk", spec := "fnTxtOk", plainKeys := false, apart := false }
def FnTxtOkSaid : Prop := fnTxtOkRow.holds Try.pinned (OpenSpec.ofChange fnTxtOkSpec)

/-- ITS FALSE NEIGHBOUR: 'it returns false'. Refute it at one input. -/
def fnTxtOkWrong : ChangeSpec := { name := "fnTxtOk", fn := fun _ => fun
  | [d] => { results := [.lit (.bool false)], args := [d] }
  | _ => none }
def FnTxtOkWrongFalsely : Prop := fnTxtOkRow.holds Try.pinned (OpenSpec.ofChange fnTxtOkWrong)

/-- 'laws.FnCellOk': WHATEVER THE INPUT: true; the input reads as it did. -/
def fnCellOkSpec : ChangeSpec := { name := "fnCellOk", fn := fun _ => fun
  | [d] => { results := [.lit (.bool true)], args := [d] }
  | _ => none }
def fnCellOkRow : OpenClaim := { program := "ytggmjiddadjilal", sum := "e42fc332675fcab0f77d32c1905136ab09aca03aca834770fdd768c37c8709cd", func := "loop.example/panework/laws.FnCellOk", spec := "fnCellOk", plainKeys := false, apart := false }
def FnCellOkSaid : Prop := fnCellOkRow.holds Try.pinned (OpenSpec.ofChange fnCellOkSpec)

/-- ITS FALSE NEIGHBOUR: 'it returns false'. Refute it at one input. -/
def fnCellOkWrong : ChangeSpec := { name := "fnCellOk", fn := fun _ => fun
  | [d] => { results := [.lit (.bool false)], args := [d] }
  | _ => none }
def FnCellOkWrongFalsely : Prop := fnCellOkRow.holds Try.pinned (OpenSpec.ofChange fnCellOkWrong)

/-- 'laws.FnBrdOk': WHATEVER THE INPUT: true; the input reads as it did. -/
def fnBrdOkSpec : ChangeSpec := { name := "fnBrdOk", fn := fun _ => fun
  | [d] => { results := [.lit (.bool true)], args := [d] }
  | _ => none }
def fnBrdOkRow : OpenClaim := { program := "ytggmjiddadjilal", sum := "e42fc332675fcab0f77d32c1905136ab09aca03aca834770fdd768c37c8709cd", func := "loop.example/panework/laws.FnBrdOk", spec := "fnBrdOk", plainKeys := false, apart := false }
def FnBrdOkSaid : Prop := fnBrdOkRow.holds Try.pinned (OpenSpec.ofChange fnBrdOkSpec)

/-- ITS FALSE NEIGHBOUR: 'it returns false'. Refute it at one input. -/
def fnBrdOkWrong : ChangeSpec := { name := "fnBrdOk", fn := fun _ => fun
  | [d] => { results := [.lit (.bool false)], args := [d] }
  | _ => none }
def FnBrdOkWrongFalsely : Prop := fnBrdOkRow.holds Try.pinned (OpenSpec.ofChange fnBrdOkWrong)

/-- 'laws.FnGrdMore': WHATEVER THE INPUT: true; the input reads as it did. -/
def fnGrdMoreSpec : ChangeSpec := { name := "fnGrdMore", fn := fun _ => fun
  | [d] => { results := [.lit (.bool true)], args := [d] }
  | _ => none }
def fnGrdMoreRow : OpenClaim := { program := "ytggmjiddadjilal", sum := "e42fc332675fcab0f77d32c1905136ab09aca03aca834770fdd768c37c8709cd", func := "loop.example/panework/laws.FnGrdMore", spec := "fnGrdMore", inPlace := ["slices.overlaps[loop.example/panework/impl.TblCell]"], unfollowed := true, recurses := true, plainKeys := false, apart := false }
def FnGrdMoreSaid : Prop := fnGrdMoreRow.holds Try.pinned (OpenSpec.ofChange fnGrdMoreSpec)

/-- ITS FALSE NEIGHBOUR: 'it returns false'. Refute it at one input. -/
def fnGrdMoreWrong : ChangeSpec := { name := "fnGrdMore", fn := fun _ => fun
  | [d] => { results := [.lit (.bool false)], args := [d] }
  | _ => none }
def FnGrdMoreWrongFalsely : Prop := fnGrdMoreRow.holds Try.pinned (OpenSpec.ofChange fnGrdMoreWrong)

/-- 'laws.FnGrdPlain': WHATEVER THE INPUT: true; the input reads as it did. -/
def fnGrdPlainSpec : ChangeSpec := { name := "fnGrdPlain", fn := fun _ => fun
  | [d] => { results := [.lit (.bool true)], args := [d] }
  | _ => none }
def fnGrdPlainRow : OpenClaim := { program := "ytggmjiddadjilal", sum := "e42fc332675fcab0f77d32c1905136ab09aca03aca834770fdd768c37c8709cd", func := "loop.example/panework/laws.FnGrdPlain", spec := "fnGrdPlain", unfollowed := true, recurses := true, plainKeys := false, apart := false }
def FnGrdPlainSaid : Prop := fnGrdPlainRow.holds Try.pinned (OpenSpec.ofChange fnGrdPlainSpec)

/-- ITS FALSE NEIGHBOUR: 'it returns false'. Refute it at one input. -/
def fnGrdPlainWrong : ChangeSpec := { name := "fnGrdPlain", fn := fun _ => fun
  | [d] => { results := [.lit (.bool false)], args := [d] }
  | _ => none }
def FnGrdPlainWrongFalsely : Prop := fnGrdPlainRow.holds Try.pinned (OpenSpec.ofChange fnGrdPlainWrong)

/- THE SECOND FORM. 'bulk': how many values and letters a reading holds, each counted each time it is reached (what is shared counts as often as it is met; a slice's spare places count too). A statement '..UptoSaid' is the law's where the arguments, and the package variables that the reading takes, are together of bulk at most 1048576: NARROWER than '..Said'. Prove '..Said' where nothing that the law and all that it calls make is longer than what came in: it says more and counts as full. Else prove '..UptoSaid'. A law counts once. -/
mutual
def uptoBulk {H : Type} : DataW H → Nat
  | .lit (.string bytes) => bytes.length + 1
  | .lit _ => 1
  | .nil => 1
  | .ptr d => uptoBulk d + 1
  | .slice elems spare => uptoBulkAll elems + uptoBulkAll spare + 1
  | .agg parts => uptoBulkAll parts + 1
  | .iface _ d => uptoBulk d + 1
  | .map entries => uptoBulkEntries entries + 1
  | .held _ => 1
def uptoBulkAll {H : Type} : List (DataW H) → Nat
  | [] => 0
  | d :: r => uptoBulk d + uptoBulkAll r
def uptoBulkEntries {H : Type} : List (Lit × DataW H) → Nat
  | [] => 0
  | x :: r => uptoBulkEntry x + uptoBulkEntries r
def uptoBulkEntry {H : Type} : Lit × DataW H → Nat
  | (.string bytes, d) => bytes.length + uptoBulk d + 1
  | (_, d) => uptoBulk d + 1
 end
def uptoSmall : (H : Type) → List (DataW H) → Bool := fun _ ds => decide (uptoBulkAll ds ≤ 1048576)
def OpenSpec.upto (s : _root_.Go.ChangeSpec) : _root_.Go.OpenSpec := { _root_.Go.OpenSpec.ofChange s with cond := some uptoSmall }

/-- 'laws.FnTxtOk', WHERE WHAT IT READS IS OF BULK AT MOST 1048576: true; the input reads as it did. -/
def fnTxtOkUptoRow : OpenClaim := { program := "ytggmjiddadjilal", sum := "e42fc332675fcab0f77d32c1905136ab09aca03aca834770fdd768c37c8709cd", func := "loop.example/panework/laws.FnTxtOk", spec := "fnTxtOk", plainKeys := false, apart := false, narrowed := true }
def FnTxtOkUptoSaid : Prop := fnTxtOkUptoRow.holds Try.pinned (OpenSpec.upto fnTxtOkSpec)

/-- 'laws.FnCellOk', WHERE WHAT IT READS IS OF BULK AT MOST 1048576: true; the input reads as it did. -/
def fnCellOkUptoRow : OpenClaim := { program := "ytggmjiddadjilal", sum := "e42fc332675fcab0f77d32c1905136ab09aca03aca834770fdd768c37c8709cd", func := "loop.example/panework/laws.FnCellOk", spec := "fnCellOk", plainKeys := false, apart := false, narrowed := true }
def FnCellOkUptoSaid : Prop := fnCellOkUptoRow.holds Try.pinned (OpenSpec.upto fnCellOkSpec)

/-- 'laws.FnBrdOk', WHERE WHAT IT READS IS OF BULK AT MOST 1048576: true; the input reads as it did. -/
def fnBrdOkUptoRow : OpenClaim := { program := "ytggmjiddadjilal", sum := "e42fc332675fcab0f77d32c1905136ab09aca03aca834770fdd768c37c8709cd", func := "loop.example/panework/laws.FnBrdOk", spec := "fnBrdOk", plainKeys := false, apart := false, narrowed := true }
def FnBrdOkUptoSaid : Prop := fnBrdOkUptoRow.holds Try.pinned (OpenSpec.upto fnBrdOkSpec)

/-- 'laws.FnGrdMore', WHERE WHAT IT READS IS OF BULK AT MOST 1048576: true; the input reads as it did. -/
def fnGrdMoreUptoRow : OpenClaim := { program := "ytggmjiddadjilal", sum := "e42fc332675fcab0f77d32c1905136ab09aca03aca834770fdd768c37c8709cd", func := "loop.example/panework/laws.FnGrdMore", spec := "fnGrdMore", inPlace := ["slices.overlaps[loop.example/panework/impl.TblCell]"], unfollowed := true, recurses := true, plainKeys := false, apart := false, narrowed := true }
def FnGrdMoreUptoSaid : Prop := fnGrdMoreUptoRow.holds Try.pinned (OpenSpec.upto fnGrdMoreSpec)

/-- 'laws.FnGrdPlain', WHERE WHAT IT READS IS OF BULK AT MOST 1048576: true; the input reads as it did. -/
def fnGrdPlainUptoRow : OpenClaim := { program := "ytggmjiddadjilal", sum := "e42fc332675fcab0f77d32c1905136ab09aca03aca834770fdd768c37c8709cd", func := "loop.example/panework/laws.FnGrdPlain", spec := "fnGrdPlain", unfollowed := true, recurses := true, plainKeys := false, apart := false, narrowed := true }
def FnGrdPlainUptoSaid : Prop := fnGrdPlainUptoRow.holds Try.pinned (OpenSpec.upto fnGrdPlainSpec)

end Rows
end Go.Proofs.Ytggmjiddadjilal
