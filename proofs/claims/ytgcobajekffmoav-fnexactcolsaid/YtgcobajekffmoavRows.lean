/-
  No cell of these rows narrows 'for every input' (looked for: loops, veiled, ifaces, maps, wideKeys, modest, calm, conditions, laid).
  DERIVED. THE GIVEN ROWS OF THIS SEAT. 4 by the template 'for every input the law returns true; each argument reads behind the call as it read before'; 0 by the template 'total and deterministic' (their statements: YtgcobajekffmoavTotals.lean).
  GIVEN WITH THE SEED: the statements are not yours to turn. If you find one false, say at which input.
  Laid BY PROGRAM, IN A SANDBOX (cutbox-rows.mjs): the forced cells as the released guide's own fill.sh prints them over the translation aab3eef1f91cc687… (all of the seat's roots in one cut). By AI agents, Wed Nov 11 2026. No macro, syntax, notation, axiom, sorry.
-/
import Derived.Test.YtgcobajekffmoavChecked
import GoSem.Claim
import GoSem.ClaimJoined
import GoSem.ClaimMapViews
import Derived.JoinedTies
import Derived.KernelRfl
namespace Go.Proofs.Ytgcobajekffmoav
/- THE CELL 'sum', in the pinned program and in every row, IS THE sha256 OF THE DUMP (.gsa) THAT YtgcobajekffmoavProg.lean LOADS. Nothing in Lean hashes anything: it is a label: what it is worth is what the hold of that sum in a sandbox is worth. -/
noncomputable def Try.pinned : Pinned := { name := "ytgcobajekffmoav", sum := "aab3eef1f91cc68732bdef9622e1ab913d55c8f27e926a8999b21317c85a0085", checked := Try.checked }
namespace Rows
def none {H : Type} : Left H := { results := [], args := [] }

/-- 'laws.FnExactColFloor': WHATEVER THE INPUT: true; the input reads as it did. -/
def fnExactColFloorSpec : ChangeSpec := { name := "fnExactColFloor", fn := fun _ => fun
  | [d] => { results := [.lit (.bool true)], args := [d] }
  | _ => none }
def fnExactColFloorRow : OpenClaim := { program := "ytgcobajekffmoav", sum := "aab3eef1f91cc68732bdef9622e1ab913d55c8f27e926a8999b21317c85a0085", func := "loop.example/panework/laws.FnExactColFloor", spec := "fnExactColFloor", unfollowed := true, recurses := true, plainKeys := false, apart := false }
def FnExactColFloorSaid : Prop := fnExactColFloorRow.holds Try.pinned (OpenSpec.ofChange fnExactColFloorSpec)

/-- ITS FALSE NEIGHBOUR: 'it returns false'. Refute it at one input. -/
def fnExactColFloorWrong : ChangeSpec := { name := "fnExactColFloor", fn := fun _ => fun
  | [d] => { results := [.lit (.bool false)], args := [d] }
  | _ => none }
def FnExactColFloorWrongFalsely : Prop := fnExactColFloorRow.holds Try.pinned (OpenSpec.ofChange fnExactColFloorWrong)

/-- 'laws.FnExactColSaid': WHATEVER THE INPUT: true; the input reads as it did. -/
def fnExactColSaidSpec : ChangeSpec := { name := "fnExactColSaid", fn := fun _ => fun
  | [d1, d2] => { results := [.lit (.bool true)], args := [d1, d2] }
  | _ => none }
def fnExactColSaidRow : OpenClaim := { program := "ytgcobajekffmoav", sum := "aab3eef1f91cc68732bdef9622e1ab913d55c8f27e926a8999b21317c85a0085", func := "loop.example/panework/laws.FnExactColSaid", spec := "fnExactColSaid", unfollowed := true, recurses := true, plainKeys := false, apart := false }
def FnExactColSaidSaid : Prop := fnExactColSaidRow.holds Try.pinned (OpenSpec.ofChange fnExactColSaidSpec)

/-- ITS FALSE NEIGHBOUR: 'it returns false'. Refute it at one input. -/
def fnExactColSaidWrong : ChangeSpec := { name := "fnExactColSaid", fn := fun _ => fun
  | [d1, d2] => { results := [.lit (.bool false)], args := [d1, d2] }
  | _ => none }
def FnExactColSaidWrongFalsely : Prop := fnExactColSaidRow.holds Try.pinned (OpenSpec.ofChange fnExactColSaidWrong)

/-- 'laws.FnExactColAllFixed': WHATEVER THE INPUT: true; the input reads as it did. -/
def fnExactColAllFixedSpec : ChangeSpec := { name := "fnExactColAllFixed", fn := fun _ => fun
  | [d] => { results := [.lit (.bool true)], args := [d] }
  | _ => none }
def fnExactColAllFixedRow : OpenClaim := { program := "ytgcobajekffmoav", sum := "aab3eef1f91cc68732bdef9622e1ab913d55c8f27e926a8999b21317c85a0085", func := "loop.example/panework/laws.FnExactColAllFixed", spec := "fnExactColAllFixed", unfollowed := true, recurses := true, plainKeys := false, apart := false }
def FnExactColAllFixedSaid : Prop := fnExactColAllFixedRow.holds Try.pinned (OpenSpec.ofChange fnExactColAllFixedSpec)

/-- ITS FALSE NEIGHBOUR: 'it returns false'. Refute it at one input. -/
def fnExactColAllFixedWrong : ChangeSpec := { name := "fnExactColAllFixed", fn := fun _ => fun
  | [d] => { results := [.lit (.bool false)], args := [d] }
  | _ => none }
def FnExactColAllFixedWrongFalsely : Prop := fnExactColAllFixedRow.holds Try.pinned (OpenSpec.ofChange fnExactColAllFixedWrong)

/-- 'laws.FnExactWidAt': WHATEVER THE INPUT: true; the input reads as it did. -/
def fnExactWidAtSpec : ChangeSpec := { name := "fnExactWidAt", fn := fun _ => fun
  | [d1, d2, d3] => { results := [.lit (.bool true)], args := [d1, d2, d3] }
  | _ => none }
def fnExactWidAtRow : OpenClaim := { program := "ytgcobajekffmoav", sum := "aab3eef1f91cc68732bdef9622e1ab913d55c8f27e926a8999b21317c85a0085", func := "loop.example/panework/laws.FnExactWidAt", spec := "fnExactWidAt", plainKeys := false, apart := false }
def FnExactWidAtSaid : Prop := fnExactWidAtRow.holds Try.pinned (OpenSpec.ofChange fnExactWidAtSpec)

/-- ITS FALSE NEIGHBOUR: 'it returns false'. Refute it at one input. -/
def fnExactWidAtWrong : ChangeSpec := { name := "fnExactWidAt", fn := fun _ => fun
  | [d1, d2, d3] => { results := [.lit (.bool false)], args := [d1, d2, d3] }
  | _ => none }
def FnExactWidAtWrongFalsely : Prop := fnExactWidAtRow.holds Try.pinned (OpenSpec.ofChange fnExactWidAtWrong)

/- THE SECOND FORM. 'bulk': how many values and letters a reading holds, each counted each time it is reached (what is shared counts as often as it is met; a slice's spare places count too). A statement '..UptoSaid' is the law's where the arguments, and the package variables that the reading takes, are together of bulk at most 1048576: NARROWER than '..Said'. Prove '..Said' where nothing that the law and all that it calls make is longer than what came in: it says more and counts as full. Else prove '..UptoSaid'. A law counts once. -/
mutual
def uptoBulk {H : Type} : DataW H → Nat
  | .lit (.string bytes) => bytes.length + 1
  | .lit _ => 1
  | .nil => 1
  | .ptr d => uptoBulk d + 1
  | .slice elems spare => uptoBulkAll elems + uptoBulkAll spare + 1
  | .agg parts => uptoBulkAll parts + 1
  | .iface _ d => uptoBulk d + 1
  | .map entries => uptoBulkEntries entries + 1
  | .held _ => 1
def uptoBulkAll {H : Type} : List (DataW H) → Nat
  | [] => 0
  | d :: r => uptoBulk d + uptoBulkAll r
def uptoBulkEntries {H : Type} : List (Lit × DataW H) → Nat
  | [] => 0
  | x :: r => uptoBulkEntry x + uptoBulkEntries r
def uptoBulkEntry {H : Type} : Lit × DataW H → Nat
  | (.string bytes, d) => bytes.length + uptoBulk d + 1
  | (_, d) => uptoBulk d + 1
 end
def uptoSmall : (H : Type) → List (DataW H) → Bool := fun _ ds => decide (uptoBulkAll ds ≤ 1048576)
def OpenSpec.upto (s : _root_.Go.ChangeSpec) : _root_.Go.OpenSpec := { _root_.Go.OpenSpec.ofChange s with cond := some uptoSmall }

/-- 'laws.FnExactColFloor', WHERE WHAT IT READS IS OF BULK AT MOST 1048576: true; the input reads as it did. -/
def fnExactColFloorUptoRow : OpenClaim := { program := "ytgcobajekffmoav", sum := "aab3eef1f91cc68732bdef9622e1ab913d55c8f27e926a8999b21317c85a0085", func := "loop.example/panework/laws.FnExactColFloor", spec := "fnExactColFloor", unfollowed := true, recurses := true, plainKeys := false, apart := false, narrowed := true }
def FnExactColFloorUptoSaid : Prop := fnExactColFloorUptoRow.holds Try.pinned (OpenSpec.upto fnExactColFloorSpec)

/-- 'laws.FnExactColSaid', WHERE WHAT IT READS IS OF BULK AT MOST 1048576: true; the input reads as it did. -/
def fnExactColSaidUptoRow : OpenClaim := { program := "ytgcobajekffmoav", sum := "aab3eef1f91cc68732bdef9622e1ab913d55c8f27e926a8999b21317c85a0085", func := "loop.example/panework/laws.FnExactColSaid", spec := "fnExactColSaid", unfollowed := true, recurses := true, plainKeys := false, apart := false, narrowed := true }
def FnExactColSaidUptoSaid : Prop := fnExactColSaidUptoRow.holds Try.pinned (OpenSpec.upto fnExactColSaidSpec)

/-- 'laws.FnExactColAllFixed', WHERE WHAT IT READS IS OF BULK AT MOST 1048576: true; the input reads as it did. -/
def fnExactColAllFixedUptoRow : OpenClaim := { program := "ytgcobajekffmoav", sum := "aab3eef1f91cc68732bdef9622e1ab913d55c8f27e926a8999b21317c85a0085", func := "loop.example/panework/laws.FnExactColAllFixed", spec := "fnExactColAllFixed", unfollowed := true, recurses := true, plainKeys := false, apart := false, narrowed := true }
def FnExactColAllFixedUptoSaid : Prop := fnExactColAllFixedUptoRow.holds Try.pinned (OpenSpec.upto fnExactColAllFixedSpec)

/-- 'laws.FnExactWidAt', WHERE WHAT IT READS IS OF BULK AT MOST 1048576: true; the input reads as it did. -/
def fnExactWidAtUptoRow : OpenClaim := { program := "ytgcobajekffmoav", sum := "aab3eef1f91cc68732bdef9622e1ab913d55c8f27e926a8999b21317c85a0085", func := "loop.example/panework/laws.FnExactWidAt", spec := "fnExactWidAt", plainKeys := false, apart := false, narrowed := true }
def FnExactWidAtUptoSaid : Prop := fnExactWidAtUptoRow.holds Try.pinned (OpenSpec.upto fnExactWidAtSpec)

end Rows
end Go.Proofs.Ytgcobajekffmoav
