/-
  No cell of these rows narrows 'for every input' (looked for: loops, veiled, ifaces, maps, wideKeys, modest, calm, conditions, laid).
  DERIVED. THE GIVEN ROWS OF THIS SEAT. 5 by the template 'for every input the law returns true; each argument reads behind the call as it read before'; 0 by the template 'total and deterministic' (their statements: YtggmjiddadjilagTotals.lean).
  GIVEN WITH THE SEED: the statements are not yours to turn. If you find one false, say at which input.
  Laid BY PROGRAM, IN A SANDBOX (cutbox-rows.mjs): the forced cells as the released guide's own fill.sh prints them over the translation c9f88b76696d0fa4… (all of the seat's roots in one cut). By AI agents, Wed Nov 11 2026. No macro, syntax, notation, axiom, sorry.
-/
import Derived.Test.YtggmjiddadjilagChecked
import GoSem.Claim
import GoSem.ClaimJoined
import GoSem.ClaimMapViews
import Derived.JoinedTies
import Derived.KernelRfl
namespace Go.Proofs.Ytggmjiddadjilag
/- THE CELL 'sum', in the pinned program and in every row, IS THE sha256 OF THE DUMP (.gsa) THAT YtggmjiddadjilagProg.lean LOADS. Nothing in Lean hashes anything: it is a label: what it is worth is what the hold of that sum in a sandbox is worth. -/
noncomputable def Try.pinned : Pinned := { name := "ytggmjiddadjilag", sum := "c9f88b76696d0fa42082e5216598b9adb39b356fbbb69f954841d05019ed567b", checked := Try.checked }
namespace Rows
def none {H : Type} : Left H := { results := [], args := [] }

/-- 'laws.FnHgtAt': WHATEVER THE INPUT: true; the input reads as it did. -/
def fnHgtAtSpec : ChangeSpec := { name := "fnHgtAt", fn := fun _ => fun
  | [d1, d2] => { results := [.lit (.bool true)], args := [d1, d2] }
  | _ => none }
def fnHgtAtRow : OpenClaim := { program := "ytggmjiddadjilag", sum := "c9f88b76696d0fa42082e5216598b9adb39b356fbbb69f954841d05019ed567b", func := "loop.example/panework/laws.FnHgtAt", spec := "fnHgtAt", plainKeys := false, apart := false }
def FnHgtAtSaid : Prop := fnHgtAtRow.holds Try.pinned (OpenSpec.ofChange fnHgtAtSpec)

/-- ITS FALSE NEIGHBOUR: 'it returns false'. Refute it at one input. -/
def fnHgtAtWrong : ChangeSpec := { name := "fnHgtAt", fn := fun _ => fun
  | [d1, d2] => { results := [.lit (.bool false)], args := [d1, d2] }
  | _ => none }
def FnHgtAtWrongFalsely : Prop := fnHgtAtRow.holds Try.pinned (OpenSpec.ofChange fnHgtAtWrong)

/-- 'laws.FnBrdBeats': WHATEVER THE INPUT: true; the input reads as it did. -/
def fnBrdBeatsSpec : ChangeSpec := { name := "fnBrdBeats", fn := fun _ => fun
  | [d1, d2] => { results := [.lit (.bool true)], args := [d1, d2] }
  | _ => none }
def fnBrdBeatsRow : OpenClaim := { program := "ytggmjiddadjilag", sum := "c9f88b76696d0fa42082e5216598b9adb39b356fbbb69f954841d05019ed567b", func := "loop.example/panework/laws.FnBrdBeats", spec := "fnBrdBeats", plainKeys := false, apart := false }
def FnBrdBeatsSaid : Prop := fnBrdBeatsRow.holds Try.pinned (OpenSpec.ofChange fnBrdBeatsSpec)

/-- ITS FALSE NEIGHBOUR: 'it returns false'. Refute it at one input. -/
def fnBrdBeatsWrong : ChangeSpec := { name := "fnBrdBeats", fn := fun _ => fun
  | [d1, d2] => { results := [.lit (.bool false)], args := [d1, d2] }
  | _ => none }
def FnBrdBeatsWrongFalsely : Prop := fnBrdBeatsRow.holds Try.pinned (OpenSpec.ofChange fnBrdBeatsWrong)

/-- 'laws.FnBrdBest': WHATEVER THE INPUT: true; the input reads as it did. -/
def fnBrdBestSpec : ChangeSpec := { name := "fnBrdBest", fn := fun _ => fun
  | [d] => { results := [.lit (.bool true)], args := [d] }
  | _ => none }
def fnBrdBestRow : OpenClaim := { program := "ytggmjiddadjilag", sum := "c9f88b76696d0fa42082e5216598b9adb39b356fbbb69f954841d05019ed567b", func := "loop.example/panework/laws.FnBrdBest", spec := "fnBrdBest", plainKeys := false, apart := false }
def FnBrdBestSaid : Prop := fnBrdBestRow.holds Try.pinned (OpenSpec.ofChange fnBrdBestSpec)

/-- ITS FALSE NEIGHBOUR: 'it returns false'. Refute it at one input. -/
def fnBrdBestWrong : ChangeSpec := { name := "fnBrdBest", fn := fun _ => fun
  | [d] => { results := [.lit (.bool false)], args := [d] }
  | _ => none }
def FnBrdBestWrongFalsely : Prop := fnBrdBestRow.holds Try.pinned (OpenSpec.ofChange fnBrdBestWrong)

/-- 'laws.FnBrdMeet': WHATEVER THE INPUT: true; the input reads as it did. -/
def fnBrdMeetSpec : ChangeSpec := { name := "fnBrdMeet", fn := fun _ => fun
  | [d] => { results := [.lit (.bool true)], args := [d] }
  | _ => none }
def fnBrdMeetRow : OpenClaim := { program := "ytggmjiddadjilag", sum := "c9f88b76696d0fa42082e5216598b9adb39b356fbbb69f954841d05019ed567b", func := "loop.example/panework/laws.FnBrdMeet", spec := "fnBrdMeet", unfollowed := true, recurses := true, plainKeys := false, apart := false }
def FnBrdMeetSaid : Prop := fnBrdMeetRow.holds Try.pinned (OpenSpec.ofChange fnBrdMeetSpec)

/-- ITS FALSE NEIGHBOUR: 'it returns false'. Refute it at one input. -/
def fnBrdMeetWrong : ChangeSpec := { name := "fnBrdMeet", fn := fun _ => fun
  | [d] => { results := [.lit (.bool false)], args := [d] }
  | _ => none }
def FnBrdMeetWrongFalsely : Prop := fnBrdMeetRow.holds Try.pinned (OpenSpec.ofChange fnBrdMeetWrong)

/-- 'laws.FnBrdAll': WHATEVER THE INPUT: true; the input reads as it did. -/
def fnBrdAllSpec : ChangeSpec := { name := "fnBrdAll", fn := fun _ => fun
  | [d] => { results := [.lit (.bool true)], args := [d] }
  | _ => none }
def fnBrdAllRow : OpenClaim := { program := "ytggmjiddadjilag", sum := "c9f88b76696d0fa42082e5216598b9adb39b356fbbb69f954841d05019ed567b", func := "loop.example/panework/laws.FnBrdAll", spec := "fnBrdAll", unfollowed := true, recurses := true, plainKeys := false, apart := false }
def FnBrdAllSaid : Prop := fnBrdAllRow.holds Try.pinned (OpenSpec.ofChange fnBrdAllSpec)

/-- ITS FALSE NEIGHBOUR: 'it returns false'. Refute it at one input. -/
def fnBrdAllWrong : ChangeSpec := { name := "fnBrdAll", fn := fun _ => fun
  | [d] => { results := [.lit (.bool false)], args := [d] }
  | _ => none }
def FnBrdAllWrongFalsely : Prop := fnBrdAllRow.holds Try.pinned (OpenSpec.ofChange fnBrdAllWrong)

/- THE SECOND FORM. 'bulk': how many values and letters a reading holds, each counted each time it is reached (what is shared counts as often as it is met; a slice's spare places count too). A statement '..UptoSaid' is the law's where the arguments, and the package variables that the reading takes, are together of bulk at most 1048576: NARROWER than '..Said'. Prove '..Said' where nothing that the law and all that it calls make is longer than what came in: it says more and counts as full. Else prove '..UptoSaid'. A law counts once. -/
mutual
def uptoBulk {H : Type} : DataW H → Nat
  | .lit (.string bytes) => bytes.length + 1
  | .lit _ => 1
  | .nil => 1
  | .ptr d => uptoBulk d + 1
  | .slice elems spare => uptoBulkAll elems + uptoBulkAll spare + 1
  | .agg parts => uptoBulkAll parts + 1
  | .iface _ d => uptoBulk d + 1
  | .map entries => uptoBulkEntries entries + 1
  | .held _ => 1
def uptoBulkAll {H : Type} : List (DataW H) → Nat
  | [] => 0
  | d :: r => uptoBulk d + uptoBulkAll r
def uptoBulkEntries {H : Type} : List (Lit × DataW H) → Nat
  | [] => 0
  | x :: r => uptoBulkEntry x + uptoBulkEntries r
def uptoBulkEntry {H : Type} : Lit × DataW H → Nat
  | (.string bytes, d) => bytes.length + uptoBulk d + 1
  | (_, d) => uptoBulk d + 1
 end
def uptoSmall : (H : Type) → List (DataW H) → Bool := fun _ ds => decide (uptoBulkAll ds ≤ 1048576)
def OpenSpec.upto (s : _root_.Go.ChangeSpec) : _root_.Go.OpenSpec := { _root_.Go.OpenSpec.ofChange s with cond := some uptoSmall }

/-- 'laws.FnHgtAt', WHERE WHAT IT READS IS OF BULK AT MOST 1048576: true; the input reads as it did. -/
def fnHgtAtUptoRow : OpenClaim := { program := "ytggmjiddadjilag", sum := "c9f88b76696d0fa42082e5216598b9adb39b356fbbb69f954841d05019ed567b", func := "loop.example/panework/laws.FnHgtAt", spec := "fnHgtAt", plainKeys := false, apart := false, narrowed := true }
def FnHgtAtUptoSaid : Prop := fnHgtAtUptoRow.holds Try.pinned (OpenSpec.upto fnHgtAtSpec)

/-- 'laws.FnBrdBeats', WHERE WHAT IT READS IS OF BULK AT MOST 1048576: true; the input reads as it did. -/
def fnBrdBeatsUptoRow : OpenClaim := { program := "ytggmjiddadjilag", sum := "c9f88b76696d0fa42082e5216598b9adb39b356fbbb69f954841d05019ed567b", func := "loop.example/panework/laws.FnBrdBeats", spec := "fnBrdBeats", plainKeys := false, apart := false, narrowed := true }
def FnBrdBeatsUptoSaid : Prop := fnBrdBeatsUptoRow.holds Try.pinned (OpenSpec.upto fnBrdBeatsSpec)

/-- 'laws.FnBrdBest', WHERE WHAT IT READS IS OF BULK AT MOST 1048576: true; the input reads as it did. -/
def fnBrdBestUptoRow : OpenClaim := { program := "ytggmjiddadjilag", sum := "c9f88b76696d0fa42082e5216598b9adb39b356fbbb69f954841d05019ed567b", func := "loop.example/panework/laws.FnBrdBest", spec := "fnBrdBest", plainKeys := false, apart := false, narrowed := true }
def FnBrdBestUptoSaid : Prop := fnBrdBestUptoRow.holds Try.pinned (OpenSpec.upto fnBrdBestSpec)

/-- 'laws.FnBrdMeet', WHERE WHAT IT READS IS OF BULK AT MOST 1048576: true; the input reads as it did. -/
def fnBrdMeetUptoRow : OpenClaim := { program := "ytggmjiddadjilag", sum := "c9f88b76696d0fa42082e5216598b9adb39b356fbbb69f954841d05019ed567b", func := "loop.example/panework/laws.FnBrdMeet", spec := "fnBrdMeet", unfollowed := true, recurses := true, plainKeys := false, apart := false, narrowed := true }
def FnBrdMeetUptoSaid : Prop := fnBrdMeetUptoRow.holds Try.pinned (OpenSpec.upto fnBrdMeetSpec)

/-- 'laws.FnBrdAll', WHERE WHAT IT READS IS OF BULK AT MOST 1048576: true; the input reads as it did. -/
def fnBrdAllUptoRow : OpenClaim := { program := "ytggmjiddadjilag", sum := "c9f88b76696d0fa42082e5216598b9adb39b356fbbb69f954841d05019ed567b", func := "loop.example/panework/laws.FnBrdAll", spec := "fnBrdAll", unfollowed := true, recurses := true, plainKeys := false, apart := false, narrowed := true }
def FnBrdAllUptoSaid : Prop := fnBrdAllUptoRow.holds Try.pinned (OpenSpec.upto fnBrdAllSpec)

end Rows
end Go.Proofs.Ytggmjiddadjilag
