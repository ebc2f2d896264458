/-
  No cell of these rows narrows 'for every input' (looked for: loops, veiled, ifaces, maps, wideKeys, modest, calm, conditions, laid).
  DERIVED. THE GIVEN ROWS OF THIS SEAT. 6 by the template 'for every input the law returns true; each argument reads behind the call as it read before'; 0 by the template 'total and deterministic' (their statements: YtfkkhfiiokhnaaxTotals.lean).
  GIVEN WITH THE SEED: the statements are not yours to turn. If you find one false, say at which input.
  Laid BY PROGRAM, IN A SANDBOX (cutbox-rows.mjs): the forced cells as the released guide's own fill.sh prints them over the translation b0738680190d95af… (all of the seat's roots in one cut). By AI agents, Wed Nov 11 2026. No macro, syntax, notation, axiom, sorry.
-/
import Derived.Test.YtfkkhfiiokhnaaxChecked
import GoSem.Claim
import GoSem.ClaimJoined
import GoSem.ClaimMapViews
import Derived.JoinedTies
import Derived.KernelRfl
namespace Go.Proofs.Ytfkkhfiiokhnaax
/- THE CELL 'sum', in the pinned program and in every row, IS THE sha256 OF THE DUMP (.gsa) THAT YtfkkhfiiokhnaaxProg.lean LOADS. Nothing in Lean hashes anything: it is a label: what it is worth is what the hold of that sum in a sandbox is worth. -/
noncomputable def Try.pinned : Pinned := { name := "ytfkkhfiiokhnaax", sum := "b0738680190d95afba6b6ff9ca9a12ab429d8ad9993f3fbf20acb6f2d5473afa", checked := Try.checked }
namespace Rows
def none {H : Type} : Left H := { results := [], args := [] }

/-- 'laws.FnExactBrdBeats': WHATEVER THE INPUT: true; the input reads as it did. -/
def fnExactBrdBeatsSpec : ChangeSpec := { name := "fnExactBrdBeats", fn := fun _ => fun
  | [d1, d2] => { results := [.lit (.bool true)], args := [d1, d2] }
  | _ => none }
def fnExactBrdBeatsRow : OpenClaim := { program := "ytfkkhfiiokhnaax", sum := "b0738680190d95afba6b6ff9ca9a12ab429d8ad9993f3fbf20acb6f2d5473afa", func := "loop.example/panework/laws.FnExactBrdBeats", spec := "fnExactBrdBeats", plainKeys := false, apart := false }
def FnExactBrdBeatsSaid : Prop := fnExactBrdBeatsRow.holds Try.pinned (OpenSpec.ofChange fnExactBrdBeatsSpec)

/-- ITS FALSE NEIGHBOUR: 'it returns false'. Refute it at one input. -/
def fnExactBrdBeatsWrong : ChangeSpec := { name := "fnExactBrdBeats", fn := fun _ => fun
  | [d1, d2] => { results := [.lit (.bool false)], args := [d1, d2] }
  | _ => none }
def FnExactBrdBeatsWrongFalsely : Prop := fnExactBrdBeatsRow.holds Try.pinned (OpenSpec.ofChange fnExactBrdBeatsWrong)

/-- 'laws.FnExactBrdBest': WHATEVER THE INPUT: true; the input reads as it did. -/
def fnExactBrdBestSpec : ChangeSpec := { name := "fnExactBrdBest", fn := fun _ => fun
  | [d] => { results := [.lit (.bool true)], args := [d] }
  | _ => none }
def fnExactBrdBestRow : OpenClaim := { program := "ytfkkhfiiokhnaax", sum := "b0738680190d95afba6b6ff9ca9a12ab429d8ad9993f3fbf20acb6f2d5473afa", func := "loop.example/panework/laws.FnExactBrdBest", spec := "fnExactBrdBest", plainKeys := false, apart := false }
def FnExactBrdBestSaid : Prop := fnExactBrdBestRow.holds Try.pinned (OpenSpec.ofChange fnExactBrdBestSpec)

/-- ITS FALSE NEIGHBOUR: 'it returns false'. Refute it at one input. -/
def fnExactBrdBestWrong : ChangeSpec := { name := "fnExactBrdBest", fn := fun _ => fun
  | [d] => { results := [.lit (.bool false)], args := [d] }
  | _ => none }
def FnExactBrdBestWrongFalsely : Prop := fnExactBrdBestRow.holds Try.pinned (OpenSpec.ofChange fnExactBrdBestWrong)

/-- 'laws.FnExactBrdAcross': WHATEVER THE INPUT: true; the input reads as it did. -/
def fnExactBrdAcrossSpec : ChangeSpec := { name := "fnExactBrdAcross", fn := fun _ => fun
  | [d1, d2, d3] => { results := [.lit (.bool true)], args := [d1, d2, d3] }
  | _ => none }
def fnExactBrdAcrossRow : OpenClaim := { program := "ytfkkhfiiokhnaax", sum := "b0738680190d95afba6b6ff9ca9a12ab429d8ad9993f3fbf20acb6f2d5473afa", func := "loop.example/panework/laws.FnExactBrdAcross", spec := "fnExactBrdAcross", unfollowed := true, recurses := true, plainKeys := false, apart := false }
def FnExactBrdAcrossSaid : Prop := fnExactBrdAcrossRow.holds Try.pinned (OpenSpec.ofChange fnExactBrdAcrossSpec)

/-- ITS FALSE NEIGHBOUR: 'it returns false'. Refute it at one input. -/
def fnExactBrdAcrossWrong : ChangeSpec := { name := "fnExactBrdAcross", fn := fun _ => fun
  | [d1, d2, d3] => { results := [.lit (.bool false)], args := [d1, d2, d3] }
  | _ => none }
def FnExactBrdAcrossWrongFalsely : Prop := fnExactBrdAcrossRow.holds Try.pinned (OpenSpec.ofChange fnExactBrdAcrossWrong)

/-- 'laws.FnExactBrdBeside': WHATEVER THE INPUT: true; the input reads as it did. -/
def fnExactBrdBesideSpec : ChangeSpec := { name := "fnExactBrdBeside", fn := fun _ => fun
  | [d1, d2, d3] => { results := [.lit (.bool true)], args := [d1, d2, d3] }
  | _ => none }
def fnExactBrdBesideRow : OpenClaim := { program := "ytfkkhfiiokhnaax", sum := "b0738680190d95afba6b6ff9ca9a12ab429d8ad9993f3fbf20acb6f2d5473afa", func := "loop.example/panework/laws.FnExactBrdBeside", spec := "fnExactBrdBeside", unfollowed := true, recurses := true, plainKeys := false, apart := false }
def FnExactBrdBesideSaid : Prop := fnExactBrdBesideRow.holds Try.pinned (OpenSpec.ofChange fnExactBrdBesideSpec)

/-- ITS FALSE NEIGHBOUR: 'it returns false'. Refute it at one input. -/
def fnExactBrdBesideWrong : ChangeSpec := { name := "fnExactBrdBeside", fn := fun _ => fun
  | [d1, d2, d3] => { results := [.lit (.bool false)], args := [d1, d2, d3] }
  | _ => none }
def FnExactBrdBesideWrongFalsely : Prop := fnExactBrdBesideRow.holds Try.pinned (OpenSpec.ofChange fnExactBrdBesideWrong)

/-- 'laws.FnExactBrdAll': WHATEVER THE INPUT: true; the input reads as it did. -/
def fnExactBrdAllSpec : ChangeSpec := { name := "fnExactBrdAll", fn := fun _ => fun
  | [d] => { results := [.lit (.bool true)], args := [d] }
  | _ => none }
def fnExactBrdAllRow : OpenClaim := { program := "ytfkkhfiiokhnaax", sum := "b0738680190d95afba6b6ff9ca9a12ab429d8ad9993f3fbf20acb6f2d5473afa", func := "loop.example/panework/laws.FnExactBrdAll", spec := "fnExactBrdAll", unfollowed := true, recurses := true, plainKeys := false, apart := false }
def FnExactBrdAllSaid : Prop := fnExactBrdAllRow.holds Try.pinned (OpenSpec.ofChange fnExactBrdAllSpec)

/-- ITS FALSE NEIGHBOUR: 'it returns false'. Refute it at one input. -/
def fnExactBrdAllWrong : ChangeSpec := { name := "fnExactBrdAll", fn := fun _ => fun
  | [d] => { results := [.lit (.bool false)], args := [d] }
  | _ => none }
def FnExactBrdAllWrongFalsely : Prop := fnExactBrdAllRow.holds Try.pinned (OpenSpec.ofChange fnExactBrdAllWrong)

/-- 'laws.FnExactBrdShown': WHATEVER THE INPUT: true; the input reads as it did. -/
def fnExactBrdShownSpec : ChangeSpec := { name := "fnExactBrdShown", fn := fun _ => fun
  | [d] => { results := [.lit (.bool true)], args := [d] }
  | _ => none }
def fnExactBrdShownRow : OpenClaim := { program := "ytfkkhfiiokhnaax", sum := "b0738680190d95afba6b6ff9ca9a12ab429d8ad9993f3fbf20acb6f2d5473afa", func := "loop.example/panework/laws.FnExactBrdShown", spec := "fnExactBrdShown", unfollowed := true, recurses := true, plainKeys := false, apart := false }
def FnExactBrdShownSaid : Prop := fnExactBrdShownRow.holds Try.pinned (OpenSpec.ofChange fnExactBrdShownSpec)

/-- ITS FALSE NEIGHBOUR: 'it returns false'. Refute it at one input. -/
def fnExactBrdShownWrong : ChangeSpec := { name := "fnExactBrdShown", fn := fun _ => fun
  | [d] => { results := [.lit (.bool false)], args := [d] }
  | _ => none }
def FnExactBrdShownWrongFalsely : Prop := fnExactBrdShownRow.holds Try.pinned (OpenSpec.ofChange fnExactBrdShownWrong)

/- THE SECOND FORM. 'bulk': how many values and letters a reading holds, each counted each time it is reached (what is shared counts as often as it is met; a slice's spare places count too). A statement '..UptoSaid' is the law's where the arguments, and the package variables that the reading takes, are together of bulk at most 1048576: NARROWER than '..Said'. Prove '..Said' where nothing that the law and all that it calls make is longer than what came in: it says more and counts as full. Else prove '..UptoSaid'. A law counts once. -/
mutual
def uptoBulk {H : Type} : DataW H → Nat
  | .lit (.string bytes) => bytes.length + 1
  | .lit _ => 1
  | .nil => 1
  | .ptr d => uptoBulk d + 1
  | .slice elems spare => uptoBulkAll elems + uptoBulkAll spare + 1
  | .agg parts => uptoBulkAll parts + 1
  | .iface _ d => uptoBulk d + 1
  | .map entries => uptoBulkEntries entries + 1
  | .held _ => 1
def uptoBulkAll {H : Type} : List (DataW H) → Nat
  | [] => 0
  | d :: r => uptoBulk d + uptoBulkAll r
def uptoBulkEntries {H : Type} : List (Lit × DataW H) → Nat
  | [] => 0
  | x :: r => uptoBulkEntry x + uptoBulkEntries r
def uptoBulkEntry {H : Type} : Lit × DataW H → Nat
  | (.string bytes, d) => bytes.length + uptoBulk d + 1
  | (_, d) => uptoBulk d + 1
 end
def uptoSmall : (H : Type) → List (DataW H) → Bool := fun _ ds => decide (uptoBulkAll ds ≤ 1048576)
def OpenSpec.upto (s : _root_.Go.ChangeSpec) : _root_.Go.OpenSpec := { _root_.Go.OpenSpec.ofChange s with cond := some uptoSmall }

/-- 'laws.FnExactBrdBeats', WHERE WHAT IT READS IS OF BULK AT MOST 1048576: true; the input reads as it did. -/
def fnExactBrdBeatsUptoRow : OpenClaim := { program := "ytfkkhfiiokhnaax", sum := "b0738680190d95afba6b6ff9ca9a12ab429d8ad9993f3fbf20acb6f2d5473afa", func := "loop.example/panework/laws.FnExactBrdBeats", spec := "fnExactBrdBeats", plainKeys := false, apart := false, narrowed := true }
def FnExactBrdBeatsUptoSaid : Prop := fnExactBrdBeatsUptoRow.holds Try.pinned (OpenSpec.upto fnExactBrdBeatsSpec)

/-- 'laws.FnExactBrdBest', WHERE WHAT IT READS IS OF BULK AT MOST 1048576: true; the input reads as it did. -/
def fnExactBrdBestUptoRow : OpenClaim := { program := "ytfkkhfiiokhnaax", sum := "b0738680190d95afba6b6ff9ca9a12ab429d8ad9993f3fbf20acb6f2d5473afa", func := "loop.example/panework/laws.FnExactBrdBest", spec := "fnExactBrdBest", plainKeys := false, apart := false, narrowed := true }
def FnExactBrdBestUptoSaid : Prop := fnExactBrdBestUptoRow.holds Try.pinned (OpenSpec.upto fnExactBrdBestSpec)

/-- 'laws.FnExactBrdAcross', WHERE WHAT IT READS IS OF BULK AT MOST 1048576: true; the input reads as it did. -/
def fnExactBrdAcrossUptoRow : OpenClaim := { program := "ytfkkhfiiokhnaax", sum := "b0738680190d95afba6b6ff9ca9a12ab429d8ad9993f3fbf20acb6f2d5473afa", func := "loop.example/panework/laws.FnExactBrdAcross", spec := "fnExactBrdAcross", unfollowed := true, recurses := true, plainKeys := false, apart := false, narrowed := true }
def FnExactBrdAcrossUptoSaid : Prop := fnExactBrdAcrossUptoRow.holds Try.pinned (OpenSpec.upto fnExactBrdAcrossSpec)

/-- 'laws.FnExactBrdBeside', WHERE WHAT IT READS IS OF BULK AT MOST 1048576: true; the input reads as it did. -/
def fnExactBrdBesideUptoRow : OpenClaim := { program := "ytfkkhfiiokhnaax", sum := "b0738680190d95afba6b6ff9ca9a12ab429d8ad9993f3fbf20acb6f2d5473afa", func := "loop.example/panework/laws.FnExactBrdBeside", spec := "fnExactBrdBeside", unfollowed := true, recurses := true, plainKeys := false, apart := false, narrowed := true }
def FnExactBrdBesideUptoSaid : Prop := fnExactBrdBesideUptoRow.holds Try.pinned (OpenSpec.upto fnExactBrdBesideSpec)

/-- 'laws.FnExactBrdAll', WHERE WHAT IT READS IS OF BULK AT MOST 1048576: true; the input reads as it did. -/
def fnExactBrdAllUptoRow : OpenClaim := { program := "ytfkkhfiiokhnaax", sum := "b0738680190d95afba6b6ff9ca9a12ab429d8ad9993f3fbf20acb6f2d5473afa", func := "loop.example/panework/laws.FnExactBrdAll", spec := "fnExactBrdAll", unfollowed := true, recurses := true, plainKeys := false, apart := false, narrowed := true }
def FnExactBrdAllUptoSaid : Prop := fnExactBrdAllUptoRow.holds Try.pinned (OpenSpec.upto fnExactBrdAllSpec)

/-- 'laws.FnExactBrdShown', WHERE WHAT IT READS IS OF BULK AT MOST 1048576: true; the input reads as it did. -/
def fnExactBrdShownUptoRow : OpenClaim := { program := "ytfkkhfiiokhnaax", sum := "b0738680190d95afba6b6ff9ca9a12ab429d8ad9993f3fbf20acb6f2d5473afa", func := "loop.example/panework/laws.FnExactBrdShown", spec := "fnExactBrdShown", unfollowed := true, recurses := true, plainKeys := false, apart := false, narrowed := true }
def FnExactBrdShownUptoSaid : Prop := fnExactBrdShownUptoRow.holds Try.pinned (OpenSpec.upto fnExactBrdShownSpec)

end Rows
end Go.Proofs.Ytfkkhfiiokhnaax
