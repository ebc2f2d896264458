/-
  No cell of these rows narrows 'for every input' (looked for: loops, veiled, ifaces, maps, wideKeys, modest, calm, conditions, laid).
  DERIVED. THE GIVEN ROWS OF THIS SEAT. 4 by the template 'for every input the law returns true; each argument reads behind the call as it read before'; 0 by the template 'total and deterministic' (their statements: YtggmjiddadjilamTotals.lean).
  GIVEN WITH THE SEED: the statements are not yours to turn. If you find one false, say at which input.
  Laid BY PROGRAM, IN A SANDBOX (cutbox-rows.mjs): the forced cells as the released guide's own fill.sh prints them over the translation 15f135481a2bcc89… (all of the seat's roots in one cut). By AI agents, Wed Nov 11 2026. No macro, syntax, notation, axiom, sorry.
-/
import Derived.Test.YtggmjiddadjilamChecked
import GoSem.Claim
import GoSem.ClaimJoined
import GoSem.ClaimMapViews
import Derived.JoinedTies
import Derived.KernelRfl
namespace Go.Proofs.Ytggmjiddadjilam
/- THE CELL 'sum', in the pinned program and in every row, IS THE sha256 OF THE DUMP (.gsa) THAT YtggmjiddadjilamProg.lean LOADS. Nothing in Lean hashes anything: it is a label: what it is worth is what the hold of that sum in a sandbox is worth. -/
noncomputable def Try.pinned : Pinned := { name := "ytggmjiddadjilam", sum := "15f135481a2bcc89a1f2a185db9e7973259e50bb746c28bcbe3a020c1104f341", checked := Try.checked }
namespace Rows
def none {H : Type} : Left H := { results := [], args := [] }

/-- 'laws.FnBrdNone': WHATEVER THE INPUT: true; the input reads as it did. -/
def fnBrdNoneSpec : ChangeSpec := { name := "fnBrdNone", fn := fun _ => fun
  | [d] => { results := [.lit (.bool true)], args := [d] }
  | _ => none }
def fnBrdNoneRow : OpenClaim := { program := "ytggmjiddadjilam", sum := "15f135481a2bcc89a1f2a185db9e7973259e50bb746c28bcbe3a020c1104f341", func := "loop.example/panework/laws.FnBrdNone", spec := "fnBrdNone", unfollowed := true, recurses := true, plainKeys := false, apart := false }
def FnBrdNoneSaid : Prop := fnBrdNoneRow.holds Try.pinned (OpenSpec.ofChange fnBrdNoneSpec)

/-- ITS FALSE NEIGHBOUR: 'it returns false'. Refute it at one input. -/
def fnBrdNoneWrong : ChangeSpec := { name := "fnBrdNone", fn := fun _ => fun
  | [d] => { results := [.lit (.bool false)], args := [d] }
  | _ => none }
def FnBrdNoneWrongFalsely : Prop := fnBrdNoneRow.holds Try.pinned (OpenSpec.ofChange fnBrdNoneWrong)

/-- 'laws.FnTxtMore': WHATEVER THE INPUT: true; the input reads as it did. -/
def fnTxtMoreSpec : ChangeSpec := { name := "fnTxtMore", fn := fun _ => fun
  | [d] => { results := [.lit (.bool true)], args := [d] }
  | _ => none }
def fnTxtMoreRow : OpenClaim := { program := "ytggmjiddadjilam", sum := "15f135481a2bcc89a1f2a185db9e7973259e50bb746c28bcbe3a020c1104f341", func := "loop.example/panework/laws.FnTxtMore", spec := "fnTxtMore", inPlace := ["internal/abi.NoEscape"], unfollowed := true, recurses := true, plainKeys := false, apart := false }
def FnTxtMoreSaid : Prop := fnTxtMoreRow.holds Try.pinned (OpenSpec.ofChange fnTxtMoreSpec)

/-- ITS FALSE NEIGHBOUR: 'it returns false'. Refute it at one input. -/
def fnTxtMoreWrong : ChangeSpec := { name := "fnTxtMore", fn := fun _ => fun
  | [d] => { results := [.lit (.bool false)], args := [d] }
  | _ => none }
def FnTxtMoreWrongFalsely : Prop := fnTxtMoreRow.holds Try.pinned (OpenSpec.ofChange fnTxtMoreWrong)

/-- 'laws.FnTblOk': WHATEVER THE INPUT: true; the input reads as it did. -/
def fnTblOkSpec : ChangeSpec := { name := "fnTblOk", fn := fun _ => fun
  | [d] => { results := [.lit (.bool true)], args := [d] }
  | _ => none }
def fnTblOkRow : OpenClaim := { program := "ytggmjiddadjilam", sum := "15f135481a2bcc89a1f2a185db9e7973259e50bb746c28bcbe3a020c1104f341", func := "loop.example/panework/laws.FnTblOk", spec := "fnTblOk", unfollowed := true, recurses := true, plainKeys := false, apart := false }
def FnTblOkSaid : Prop := fnTblOkRow.holds Try.pinned (OpenSpec.ofChange fnTblOkSpec)

/-- ITS FALSE NEIGHBOUR: 'it returns false'. Refute it at one input. -/
def fnTblOkWrong : ChangeSpec := { name := "fnTblOk", fn := fun _ => fun
  | [d] => { results := [.lit (.bool false)], args := [d] }
  | _ => none }
def FnTblOkWrongFalsely : Prop := fnTblOkRow.holds Try.pinned (OpenSpec.ofChange fnTblOkWrong)

/-- 'laws.FnColMore': WHATEVER THE INPUT: true; the input reads as it did. -/
def fnColMoreSpec : ChangeSpec := { name := "fnColMore", fn := fun _ => fun
  | [d] => { results := [.lit (.bool true)], args := [d] }
  | _ => none }
def fnColMoreRow : OpenClaim := { program := "ytggmjiddadjilam", sum := "15f135481a2bcc89a1f2a185db9e7973259e50bb746c28bcbe3a020c1104f341", func := "loop.example/panework/laws.FnColMore", spec := "fnColMore", unfollowed := true, recurses := true, plainKeys := false, apart := false }
def FnColMoreSaid : Prop := fnColMoreRow.holds Try.pinned (OpenSpec.ofChange fnColMoreSpec)

/-- ITS FALSE NEIGHBOUR: 'it returns false'. Refute it at one input. -/
def fnColMoreWrong : ChangeSpec := { name := "fnColMore", fn := fun _ => fun
  | [d] => { results := [.lit (.bool false)], args := [d] }
  | _ => none }
def FnColMoreWrongFalsely : Prop := fnColMoreRow.holds Try.pinned (OpenSpec.ofChange fnColMoreWrong)

/- THE SECOND FORM. 'bulk': how many values and letters a reading holds, each counted each time it is reached (what is shared counts as often as it is met; a slice's spare places count too). A statement '..UptoSaid' is the law's where the arguments, and the package variables that the reading takes, are together of bulk at most 1048576: NARROWER than '..Said'. Prove '..Said' where nothing that the law and all that it calls make is longer than what came in: it says more and counts as full. Else prove '..UptoSaid'. A law counts once. -/
mutual
def uptoBulk {H : Type} : DataW H → Nat
  | .lit (.string bytes) => bytes.length + 1
  | .lit _ => 1
  | .nil => 1
  | .ptr d => uptoBulk d + 1
  | .slice elems spare => uptoBulkAll elems + uptoBulkAll spare + 1
  | .agg parts => uptoBulkAll parts + 1
  | .iface _ d => uptoBulk d + 1
  | .map entries => uptoBulkEntries entries + 1
  | .held _ => 1
def uptoBulkAll {H : Type} : List (DataW H) → Nat
  | [] => 0
  | d :: r => uptoBulk d + uptoBulkAll r
def uptoBulkEntries {H : Type} : List (Lit × DataW H) → Nat
  | [] => 0
  | x :: r => uptoBulkEntry x + uptoBulkEntries r
def uptoBulkEntry {H : Type} : Lit × DataW H → Nat
  | (.string bytes, d) => bytes.length + uptoBulk d + 1
  | (_, d) => uptoBulk d + 1
 end
def uptoSmall : (H : Type) → List (DataW H) → Bool := fun _ ds => decide (uptoBulkAll ds ≤ 1048576)
def OpenSpec.upto (s : _root_.Go.ChangeSpec) : _root_.Go.OpenSpec := { _root_.Go.OpenSpec.ofChange s with cond := some uptoSmall }

/-- 'laws.FnBrdNone', WHERE WHAT IT READS IS OF BULK AT MOST 1048576: true; the input reads as it did. -/
def fnBrdNoneUptoRow : OpenClaim := { program := "ytggmjiddadjilam", sum := "15f135481a2bcc89a1f2a185db9e7973259e50bb746c28bcbe3a020c1104f341", func := "loop.example/panework/laws.FnBrdNone", spec := "fnBrdNone", unfollowed := true, recurses := true, plainKeys := false, apart := false, narrowed := true }
def FnBrdNoneUptoSaid : Prop := fnBrdNoneUptoRow.holds Try.pinned (OpenSpec.upto fnBrdNoneSpec)

/-- 'laws.FnTxtMore', WHERE WHAT IT READS IS OF BULK AT MOST 1048576: true; the input reads as it did. -/
def fnTxtMoreUptoRow : OpenClaim := { program := "ytggmjiddadjilam", sum := "15f135481a2bcc89a1f2a185db9e7973259e50bb746c28bcbe3a020c1104f341", func := "loop.example/panework/laws.FnTxtMore", spec := "fnTxtMore", inPlace := ["internal/abi.NoEscape"], unfollowed := true, recurses := true, plainKeys := false, apart := false, narrowed := true }
def FnTxtMoreUptoSaid : Prop := fnTxtMoreUptoRow.holds Try.pinned (OpenSpec.upto fnTxtMoreSpec)

/-- 'laws.FnTblOk', WHERE WHAT IT READS IS OF BULK AT MOST 1048576: true; the input reads as it did. -/
def fnTblOkUptoRow : OpenClaim := { program := "ytggmjiddadjilam", sum := "15f135481a2bcc89a1f2a185db9e7973259e50bb746c28bcbe3a020c1104f341", func := "loop.example/panework/laws.FnTblOk", spec := "fnTblOk", unfollowed := true, recurses := true, plainKeys := false, apart := false, narrowed := true }
def FnTblOkUptoSaid : Prop := fnTblOkUptoRow.holds Try.pinned (OpenSpec.upto fnTblOkSpec)

/-- 'laws.FnColMore', WHERE WHAT IT READS IS OF BULK AT MOST 1048576: true; the input reads as it did. -/
def fnColMoreUptoRow : OpenClaim := { program := "ytggmjiddadjilam", sum := "15f135481a2bcc89a1f2a185db9e7973259e50bb746c28bcbe3a020c1104f341", func := "loop.example/panework/laws.FnColMore", spec := "fnColMore", unfollowed := true, recurses := true, plainKeys := false, apart := false, narrowed := true }
def FnColMoreUptoSaid : Prop := fnColMoreUptoRow.holds Try.pinned (OpenSpec.upto fnColMoreSpec)

end Rows
end Go.Proofs.Ytggmjiddadjilam
