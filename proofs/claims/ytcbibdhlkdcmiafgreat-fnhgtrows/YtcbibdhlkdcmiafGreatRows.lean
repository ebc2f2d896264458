/-
  No cell of these rows narrows 'for every input' (looked for: loops, veiled, ifaces, maps, wideKeys, modest, calm, conditions, laid).
  DERIVED. THE GIVEN ROWS OF THIS SEAT. 4 by the template 'for every input the law returns true; each argument reads behind the call as it read before'; 0 by the template 'total and deterministic' (their statements: YtcbibdhlkdcmiafGreatTotals.lean).
  GIVEN WITH THE SEED: the statements are not yours to turn. If you find one false, say at which input.
  Laid BY PROGRAM, IN A SANDBOX (cutbox-rows.mjs): the forced cells as the released guide's own fill.sh prints them over the translation 340bbaeeca972151… (all of the seat's roots in one cut). By AI agents, Wed Nov 11 2026. No macro, syntax, notation, axiom, sorry.
-/
import Derived.Test.YtcbibdhlkdcmiafGreatChecked
import GoSem.Claim
import GoSem.ClaimJoined
import GoSem.ClaimMapViews
import Derived.JoinedTies
import Derived.KernelRfl
namespace Go.Proofs.YtcbibdhlkdcmiafGreat
/- THE CELL 'sum', in the pinned program and in every row, IS THE sha256 OF THE DUMP (.gsa) THAT YtcbibdhlkdcmiafGreatProg.lean LOADS. Nothing in Lean hashes anything: it is a label: what it is worth is what the hold of that sum in a sandbox is worth. -/
noncomputable def Tryz.pinned : Pinned := { name := "ytcbibdhlkdcmiafgreat", sum := "340bbaeeca9721512bb843b86b1e9a0ab2e8acbe7169828dea710a3f2171bf89", checked := Tryz.checked }
namespace Rows
def none {H : Type} : Left H := { results := [], args := [] }

/-- 'laws.FnWidParts': WHATEVER THE INPUT: true; the input reads as it did. -/
def fnWidPartsSpec : ChangeSpec := { name := "fnWidParts", fn := fun _ => fun
  | [d] => { results := [.lit (.bool true)], args := [d] }
  | _ => none }
def fnWidPartsRow : OpenClaim := { program := "ytcbibdhlkdcmiafgreat", sum := "340bbaeeca9721512bb843b86b1e9a0ab2e8acbe7169828dea710a3f2171bf89", func := "loop.example/panework/laws.FnWidParts", spec := "fnWidParts", unfollowed := true, recurses := true, plainKeys := false, apart := false }
def FnWidPartsSaid : Prop := fnWidPartsRow.holds Tryz.pinned (OpenSpec.ofChange fnWidPartsSpec)

/-- ITS FALSE NEIGHBOUR: 'it returns false'. Refute it at one input. -/
def fnWidPartsWrong : ChangeSpec := { name := "fnWidParts", fn := fun _ => fun
  | [d] => { results := [.lit (.bool false)], args := [d] }
  | _ => none }
def FnWidPartsWrongFalsely : Prop := fnWidPartsRow.holds Tryz.pinned (OpenSpec.ofChange fnWidPartsWrong)

/-- 'laws.FnWidMore': WHATEVER THE INPUT: true; the input reads as it did. -/
def fnWidMoreSpec : ChangeSpec := { name := "fnWidMore", fn := fun _ => fun
  | [d] => { results := [.lit (.bool true)], args := [d] }
  | _ => none }
def fnWidMoreRow : OpenClaim := { program := "ytcbibdhlkdcmiafgreat", sum := "340bbaeeca9721512bb843b86b1e9a0ab2e8acbe7169828dea710a3f2171bf89", func := "loop.example/panework/laws.FnWidMore", spec := "fnWidMore", unfollowed := true, recurses := true, plainKeys := false, apart := false }
def FnWidMoreSaid : Prop := fnWidMoreRow.holds Tryz.pinned (OpenSpec.ofChange fnWidMoreSpec)

/-- ITS FALSE NEIGHBOUR: 'it returns false'. Refute it at one input. -/
def fnWidMoreWrong : ChangeSpec := { name := "fnWidMore", fn := fun _ => fun
  | [d] => { results := [.lit (.bool false)], args := [d] }
  | _ => none }
def FnWidMoreWrongFalsely : Prop := fnWidMoreRow.holds Tryz.pinned (OpenSpec.ofChange fnWidMoreWrong)

/-- 'laws.FnHgtRows': WHATEVER THE INPUT: true; the input reads as it did. -/
def fnHgtRowsSpec : ChangeSpec := { name := "fnHgtRows", fn := fun _ => fun
  | [d] => { results := [.lit (.bool true)], args := [d] }
  | _ => none }
def fnHgtRowsRow : OpenClaim := { program := "ytcbibdhlkdcmiafgreat", sum := "340bbaeeca9721512bb843b86b1e9a0ab2e8acbe7169828dea710a3f2171bf89", func := "loop.example/panework/laws.FnHgtRows", spec := "fnHgtRows", inPlace := ["internal/abi.NoEscape"], unfollowed := true, recurses := true, plainKeys := false, apart := false }
def FnHgtRowsSaid : Prop := fnHgtRowsRow.holds Tryz.pinned (OpenSpec.ofChange fnHgtRowsSpec)

/-- ITS FALSE NEIGHBOUR: 'it returns false'. Refute it at one input. -/
def fnHgtRowsWrong : ChangeSpec := { name := "fnHgtRows", fn := fun _ => fun
  | [d] => { results := [.lit (.bool false)], args := [d] }
  | _ => none }
def FnHgtRowsWrongFalsely : Prop := fnHgtRowsRow.holds Tryz.pinned (OpenSpec.ofChange fnHgtRowsWrong)

/-- 'laws.FnHgtLines': WHATEVER THE INPUT: true; the input reads as it did. -/
def fnHgtLinesSpec : ChangeSpec := { name := "fnHgtLines", fn := fun _ => fun
  | [d] => { results := [.lit (.bool true)], args := [d] }
  | _ => none }
def fnHgtLinesRow : OpenClaim := { program := "ytcbibdhlkdcmiafgreat", sum := "340bbaeeca9721512bb843b86b1e9a0ab2e8acbe7169828dea710a3f2171bf89", func := "loop.example/panework/laws.FnHgtLines", spec := "fnHgtLines", inPlace := ["internal/abi.NoEscape"], unfollowed := true, recurses := true, plainKeys := false, apart := false }
def FnHgtLinesSaid : Prop := fnHgtLinesRow.holds Tryz.pinned (OpenSpec.ofChange fnHgtLinesSpec)

/-- ITS FALSE NEIGHBOUR: 'it returns false'. Refute it at one input. -/
def fnHgtLinesWrong : ChangeSpec := { name := "fnHgtLines", fn := fun _ => fun
  | [d] => { results := [.lit (.bool false)], args := [d] }
  | _ => none }
def FnHgtLinesWrongFalsely : Prop := fnHgtLinesRow.holds Tryz.pinned (OpenSpec.ofChange fnHgtLinesWrong)

/- THE SECOND FORM. 'bulk': how many values and letters a reading holds, each counted each time it is reached (what is shared counts as often as it is met; a slice's spare places count too). A statement '..UptoSaid' is the law's where the arguments, and the package variables that the reading takes, are together of bulk at most 1048576: NARROWER than '..Said'. Prove '..Said' where nothing that the law and all that it calls make is longer than what came in: it says more and counts as full. Else prove '..UptoSaid'. A law counts once. -/
mutual
def uptoBulk {H : Type} : DataW H → Nat
  | .lit (.string bytes) => bytes.length + 1
  | .lit _ => 1
  | .nil => 1
  | .ptr d => uptoBulk d + 1
  | .slice elems spare => uptoBulkAll elems + uptoBulkAll spare + 1
  | .agg parts => uptoBulkAll parts + 1
  | .iface _ d => uptoBulk d + 1
  | .map entries => uptoBulkEntries entries + 1
  | .held _ => 1
def uptoBulkAll {H : Type} : List (DataW H) → Nat
  | [] => 0
  | d :: r => uptoBulk d + uptoBulkAll r
def uptoBulkEntries {H : Type} : List (Lit × DataW H) → Nat
  | [] => 0
  | x :: r => uptoBulkEntry x + uptoBulkEntries r
def uptoBulkEntry {H : Type} : Lit × DataW H → Nat
  | (.string bytes, d) => bytes.length + uptoBulk d + 1
  | (_, d) => uptoBulk d + 1
 end
def uptoSmall : (H : Type) → List (DataW H) → Bool := fun _ ds => decide (uptoBulkAll ds ≤ 1048576)
def OpenSpec.upto (s : _root_.Go.ChangeSpec) : _root_.Go.OpenSpec := { _root_.Go.OpenSpec.ofChange s with cond := some uptoSmall }

/-- 'laws.FnWidParts', WHERE WHAT IT READS IS OF BULK AT MOST 1048576: true; the input reads as it did. -/
def fnWidPartsUptoRow : OpenClaim := { program := "ytcbibdhlkdcmiafgreat", sum := "340bbaeeca9721512bb843b86b1e9a0ab2e8acbe7169828dea710a3f2171bf89", func := "loop.example/panework/laws.FnWidParts", spec := "fnWidParts", unfollowed := true, recurses := true, plainKeys := false, apart := false, narrowed := true }
def FnWidPartsUptoSaid : Prop := fnWidPartsUptoRow.holds Tryz.pinned (OpenSpec.upto fnWidPartsSpec)

/-- 'laws.FnWidMore', WHERE WHAT IT READS IS OF BULK AT MOST 1048576: true; the input reads as it did. -/
def fnWidMoreUptoRow : OpenClaim := { program := "ytcbibdhlkdcmiafgreat", sum := "340bbaeeca9721512bb843b86b1e9a0ab2e8acbe7169828dea710a3f2171bf89", func := "loop.example/panework/laws.FnWidMore", spec := "fnWidMore", unfollowed := true, recurses := true, plainKeys := false, apart := false, narrowed := true }
def FnWidMoreUptoSaid : Prop := fnWidMoreUptoRow.holds Tryz.pinned (OpenSpec.upto fnWidMoreSpec)

/-- 'laws.FnHgtRows', WHERE WHAT IT READS IS OF BULK AT MOST 1048576: true; the input reads as it did. -/
def fnHgtRowsUptoRow : OpenClaim := { program := "ytcbibdhlkdcmiafgreat", sum := "340bbaeeca9721512bb843b86b1e9a0ab2e8acbe7169828dea710a3f2171bf89", func := "loop.example/panework/laws.FnHgtRows", spec := "fnHgtRows", inPlace := ["internal/abi.NoEscape"], unfollowed := true, recurses := true, plainKeys := false, apart := false, narrowed := true }
def FnHgtRowsUptoSaid : Prop := fnHgtRowsUptoRow.holds Tryz.pinned (OpenSpec.upto fnHgtRowsSpec)

/-- 'laws.FnHgtLines', WHERE WHAT IT READS IS OF BULK AT MOST 1048576: true; the input reads as it did. -/
def fnHgtLinesUptoRow : OpenClaim := { program := "ytcbibdhlkdcmiafgreat", sum := "340bbaeeca9721512bb843b86b1e9a0ab2e8acbe7169828dea710a3f2171bf89", func := "loop.example/panework/laws.FnHgtLines", spec := "fnHgtLines", inPlace := ["internal/abi.NoEscape"], unfollowed := true, recurses := true, plainKeys := false, apart := false, narrowed := true }
def FnHgtLinesUptoSaid : Prop := fnHgtLinesUptoRow.holds Tryz.pinned (OpenSpec.upto fnHgtLinesSpec)

end Rows
end Go.Proofs.YtcbibdhlkdcmiafGreat
