/-
  No cell of these rows narrows 'for every input' (looked for: loops, veiled, ifaces, maps, wideKeys, modest, calm, conditions, laid).
  DERIVED. THE GIVEN ROWS OF THIS SEAT. 4 by the template 'for every input the law returns true; each argument reads behind the call as it read before'; 0 by the template 'total and deterministic' (their statements: YtggmjiddadjilaiGreatTotals.lean).
  GIVEN WITH THE SEED: the statements are not yours to turn. If you find one false, say at which input.
  Laid BY PROGRAM, IN A SANDBOX (cutbox-rows.mjs): the forced cells as the released guide's own fill.sh prints them over the translation 7b56b80d14901a51… (all of the seat's roots in one cut). By AI agents, Wed Nov 11 2026. No macro, syntax, notation, axiom, sorry.
-/
import Derived.Test.YtggmjiddadjilaiGreatChecked
import GoSem.Claim
import GoSem.ClaimJoined
import GoSem.ClaimMapViews
import Derived.JoinedTies
import Derived.KernelRfl
namespace Go.Proofs.YtggmjiddadjilaiGreat
/- THE CELL 'sum', in the pinned program and in every row, IS THE sha256 OF THE DUMP (.gsa) THAT YtggmjiddadjilaiGreatProg.lean LOADS. Nothing in Lean hashes anything: it is a label: what it is worth is what the hold of that sum in a sandbox is worth. -/
noncomputable def Tryz.pinned : Pinned := { name := "ytggmjiddadjilaigreat", sum := "7b56b80d14901a514d19d15de7e6f18588f0d3f28458f890f57fc2d8a64287c8", checked := Tryz.checked }
namespace Rows
def none {H : Type} : Left H := { results := [], args := [] }

/-- 'laws.FnPagFirst': WHATEVER THE INPUT: true; the input reads as it did. -/
def fnPagFirstSpec : ChangeSpec := { name := "fnPagFirst", fn := fun _ => fun
  | [d1, d2] => { results := [.lit (.bool true)], args := [d1, d2] }
  | _ => none }
def fnPagFirstRow : OpenClaim := { program := "ytggmjiddadjilaigreat", sum := "7b56b80d14901a514d19d15de7e6f18588f0d3f28458f890f57fc2d8a64287c8", func := "loop.example/panework/laws.FnPagFirst", spec := "fnPagFirst", inPlace := ["internal/abi.NoEscape"], unfollowed := true, recurses := true, plainKeys := false, apart := false }
def FnPagFirstSaid : Prop := fnPagFirstRow.holds Tryz.pinned (OpenSpec.ofChange fnPagFirstSpec)

/-- ITS FALSE NEIGHBOUR: 'it returns false'. Refute it at one input. -/
def fnPagFirstWrong : ChangeSpec := { name := "fnPagFirst", fn := fun _ => fun
  | [d1, d2] => { results := [.lit (.bool false)], args := [d1, d2] }
  | _ => none }
def FnPagFirstWrongFalsely : Prop := fnPagFirstRow.holds Tryz.pinned (OpenSpec.ofChange fnPagFirstWrong)

/-- 'laws.FnQryApart': WHATEVER THE INPUT: true; the input reads as it did. -/
def fnQryApartSpec : ChangeSpec := { name := "fnQryApart", fn := fun _ => fun
  | [d] => { results := [.lit (.bool true)], args := [d] }
  | _ => none }
def fnQryApartRow : OpenClaim := { program := "ytggmjiddadjilaigreat", sum := "7b56b80d14901a514d19d15de7e6f18588f0d3f28458f890f57fc2d8a64287c8", func := "loop.example/panework/laws.FnQryApart", spec := "fnQryApart", inPlace := ["internal/abi.NoEscape"], unfollowed := true, recurses := true, plainKeys := false, apart := false }
def FnQryApartSaid : Prop := fnQryApartRow.holds Tryz.pinned (OpenSpec.ofChange fnQryApartSpec)

/-- ITS FALSE NEIGHBOUR: 'it returns false'. Refute it at one input. -/
def fnQryApartWrong : ChangeSpec := { name := "fnQryApart", fn := fun _ => fun
  | [d] => { results := [.lit (.bool false)], args := [d] }
  | _ => none }
def FnQryApartWrongFalsely : Prop := fnQryApartRow.holds Tryz.pinned (OpenSpec.ofChange fnQryApartWrong)

/-- 'laws.FnQryRects': WHATEVER THE INPUT: true; the input reads as it did. -/
def fnQryRectsSpec : ChangeSpec := { name := "fnQryRects", fn := fun _ => fun
  | [d] => { results := [.lit (.bool true)], args := [d] }
  | _ => none }
def fnQryRectsRow : OpenClaim := { program := "ytggmjiddadjilaigreat", sum := "7b56b80d14901a514d19d15de7e6f18588f0d3f28458f890f57fc2d8a64287c8", func := "loop.example/panework/laws.FnQryRects", spec := "fnQryRects", inPlace := ["internal/abi.NoEscape"], unfollowed := true, recurses := true, plainKeys := false, apart := false }
def FnQryRectsSaid : Prop := fnQryRectsRow.holds Tryz.pinned (OpenSpec.ofChange fnQryRectsSpec)

/-- ITS FALSE NEIGHBOUR: 'it returns false'. Refute it at one input. -/
def fnQryRectsWrong : ChangeSpec := { name := "fnQryRects", fn := fun _ => fun
  | [d] => { results := [.lit (.bool false)], args := [d] }
  | _ => none }
def FnQryRectsWrongFalsely : Prop := fnQryRectsRow.holds Tryz.pinned (OpenSpec.ofChange fnQryRectsWrong)

/-- 'laws.FnQryHit': WHATEVER THE INPUT: true; the input reads as it did. -/
def fnQryHitSpec : ChangeSpec := { name := "fnQryHit", fn := fun _ => fun
  | [d] => { results := [.lit (.bool true)], args := [d] }
  | _ => none }
def fnQryHitRow : OpenClaim := { program := "ytggmjiddadjilaigreat", sum := "7b56b80d14901a514d19d15de7e6f18588f0d3f28458f890f57fc2d8a64287c8", func := "loop.example/panework/laws.FnQryHit", spec := "fnQryHit", inPlace := ["internal/abi.NoEscape"], unfollowed := true, recurses := true, plainKeys := false, apart := false }
def FnQryHitSaid : Prop := fnQryHitRow.holds Tryz.pinned (OpenSpec.ofChange fnQryHitSpec)

/-- ITS FALSE NEIGHBOUR: 'it returns false'. Refute it at one input. -/
def fnQryHitWrong : ChangeSpec := { name := "fnQryHit", fn := fun _ => fun
  | [d] => { results := [.lit (.bool false)], args := [d] }
  | _ => none }
def FnQryHitWrongFalsely : Prop := fnQryHitRow.holds Tryz.pinned (OpenSpec.ofChange fnQryHitWrong)

/- THE SECOND FORM. 'bulk': how many values and letters a reading holds, each counted each time it is reached (what is shared counts as often as it is met; a slice's spare places count too). A statement '..UptoSaid' is the law's where the arguments, and the package variables that the reading takes, are together of bulk at most 1048576: NARROWER than '..Said'. Prove '..Said' where nothing that the law and all that it calls make is longer than what came in: it says more and counts as full. Else prove '..UptoSaid'. A law counts once. -/
mutual
def uptoBulk {H : Type} : DataW H → Nat
  | .lit (.string bytes) => bytes.length + 1
  | .lit _ => 1
  | .nil => 1
  | .ptr d => uptoBulk d + 1
  | .slice elems spare => uptoBulkAll elems + uptoBulkAll spare + 1
  | .agg parts => uptoBulkAll parts + 1
  | .iface _ d => uptoBulk d + 1
  | .map entries => uptoBulkEntries entries + 1
  | .held _ => 1
def uptoBulkAll {H : Type} : List (DataW H) → Nat
  | [] => 0
  | d :: r => uptoBulk d + uptoBulkAll r
def uptoBulkEntries {H : Type} : List (Lit × DataW H) → Nat
  | [] => 0
  | x :: r => uptoBulkEntry x + uptoBulkEntries r
def uptoBulkEntry {H : Type} : Lit × DataW H → Nat
  | (.string bytes, d) => bytes.length + uptoBulk d + 1
  | (_, d) => uptoBulk d + 1
 end
def uptoSmall : (H : Type) → List (DataW H) → Bool := fun _ ds => decide (uptoBulkAll ds ≤ 1048576)
def OpenSpec.upto (s : _root_.Go.ChangeSpec) : _root_.Go.OpenSpec := { _root_.Go.OpenSpec.ofChange s with cond := some uptoSmall }

/-- 'laws.FnPagFirst', WHERE WHAT IT READS IS OF BULK AT MOST 1048576: true; the input reads as it did. -/
def fnPagFirstUptoRow : OpenClaim := { program := "ytggmjiddadjilaigreat", sum := "7b56b80d14901a514d19d15de7e6f18588f0d3f28458f890f57fc2d8a64287c8", func := "loop.example/panework/laws.FnPagFirst", spec := "fnPagFirst", inPlace := ["internal/abi.NoEscape"], unfollowed := true, recurses := true, plainKeys := false, apart := false, narrowed := true }
def FnPagFirstUptoSaid : Prop := fnPagFirstUptoRow.holds Tryz.pinned (OpenSpec.upto fnPagFirstSpec)

/-- 'laws.FnQryApart', WHERE WHAT IT READS IS OF BULK AT MOST 1048576: true; the input reads as it did. -/
def fnQryApartUptoRow : OpenClaim := { program := "ytggmjiddadjilaigreat", sum := "7b56b80d14901a514d19d15de7e6f18588f0d3f28458f890f57fc2d8a64287c8", func := "loop.example/panework/laws.FnQryApart", spec := "fnQryApart", inPlace := ["internal/abi.NoEscape"], unfollowed := true, recurses := true, plainKeys := false, apart := false, narrowed := true }
def FnQryApartUptoSaid : Prop := fnQryApartUptoRow.holds Tryz.pinned (OpenSpec.upto fnQryApartSpec)

/-- 'laws.FnQryRects', WHERE WHAT IT READS IS OF BULK AT MOST 1048576: true; the input reads as it did. -/
def fnQryRectsUptoRow : OpenClaim := { program := "ytggmjiddadjilaigreat", sum := "7b56b80d14901a514d19d15de7e6f18588f0d3f28458f890f57fc2d8a64287c8", func := "loop.example/panework/laws.FnQryRects", spec := "fnQryRects", inPlace := ["internal/abi.NoEscape"], unfollowed := true, recurses := true, plainKeys := false, apart := false, narrowed := true }
def FnQryRectsUptoSaid : Prop := fnQryRectsUptoRow.holds Tryz.pinned (OpenSpec.upto fnQryRectsSpec)

/-- 'laws.FnQryHit', WHERE WHAT IT READS IS OF BULK AT MOST 1048576: true; the input reads as it did. -/
def fnQryHitUptoRow : OpenClaim := { program := "ytggmjiddadjilaigreat", sum := "7b56b80d14901a514d19d15de7e6f18588f0d3f28458f890f57fc2d8a64287c8", func := "loop.example/panework/laws.FnQryHit", spec := "fnQryHit", inPlace := ["internal/abi.NoEscape"], unfollowed := true, recurses := true, plainKeys := false, apart := false, narrowed := true }
def FnQryHitUptoSaid : Prop := fnQryHitUptoRow.holds Tryz.pinned (OpenSpec.upto fnQryHitSpec)

end Rows
end Go.Proofs.YtggmjiddadjilaiGreat
