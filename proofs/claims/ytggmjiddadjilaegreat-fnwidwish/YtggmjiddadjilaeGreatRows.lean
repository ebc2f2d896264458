/-
  No cell of these rows narrows 'for every input' (looked for: loops, veiled, ifaces, maps, wideKeys, modest, calm, conditions, laid).
  DERIVED. THE GIVEN ROWS OF THIS SEAT. 4 by the template 'for every input the law returns true; each argument reads behind the call as it read before'; 0 by the template 'total and deterministic' (their statements: YtggmjiddadjilaeGreatTotals.lean).
  GIVEN WITH THE SEED: the statements are not yours to turn. If you find one false, say at which input.
  Laid BY PROGRAM, IN A SANDBOX (cutbox-rows.mjs): the forced cells as the released guide's own fill.sh prints them over the translation 6c0487e641b1f80d… (all of the seat's roots in one cut). By AI agents, Wed Nov 11 2026. No macro, syntax, notation, axiom, sorry.
-/
import Derived.Test.YtggmjiddadjilaeGreatChecked
import GoSem.Claim
import GoSem.ClaimJoined
import GoSem.ClaimMapViews
import Derived.JoinedTies
import Derived.KernelRfl
namespace Go.Proofs.YtggmjiddadjilaeGreat
/- THE CELL 'sum', in the pinned program and in every row, IS THE sha256 OF THE DUMP (.gsa) THAT YtggmjiddadjilaeGreatProg.lean LOADS. Nothing in Lean hashes anything: it is a label: what it is worth is what the hold of that sum in a sandbox is worth. -/
noncomputable def Tryz.pinned : Pinned := { name := "ytggmjiddadjilaegreat", sum := "6c0487e641b1f80d208b313ba21d2338e4811a172398dd6088177fb862e0e029", checked := Tryz.checked }
namespace Rows
def none {H : Type} : Left H := { results := [], args := [] }

/-- 'laws.FnColFloor': WHATEVER THE INPUT: true; the input reads as it did. -/
def fnColFloorSpec : ChangeSpec := { name := "fnColFloor", fn := fun _ => fun
  | [d] => { results := [.lit (.bool true)], args := [d] }
  | _ => none }
def fnColFloorRow : OpenClaim := { program := "ytggmjiddadjilaegreat", sum := "6c0487e641b1f80d208b313ba21d2338e4811a172398dd6088177fb862e0e029", func := "loop.example/panework/laws.FnColFloor", spec := "fnColFloor", unfollowed := true, recurses := true, plainKeys := false, apart := false }
def FnColFloorSaid : Prop := fnColFloorRow.holds Tryz.pinned (OpenSpec.ofChange fnColFloorSpec)

/-- ITS FALSE NEIGHBOUR: 'it returns false'. Refute it at one input. -/
def fnColFloorWrong : ChangeSpec := { name := "fnColFloor", fn := fun _ => fun
  | [d] => { results := [.lit (.bool false)], args := [d] }
  | _ => none }
def FnColFloorWrongFalsely : Prop := fnColFloorRow.holds Tryz.pinned (OpenSpec.ofChange fnColFloorWrong)

/-- 'laws.FnWidSum': WHATEVER THE INPUT: true; the input reads as it did. -/
def fnWidSumSpec : ChangeSpec := { name := "fnWidSum", fn := fun _ => fun
  | [d] => { results := [.lit (.bool true)], args := [d] }
  | _ => none }
def fnWidSumRow : OpenClaim := { program := "ytggmjiddadjilaegreat", sum := "6c0487e641b1f80d208b313ba21d2338e4811a172398dd6088177fb862e0e029", func := "loop.example/panework/laws.FnWidSum", spec := "fnWidSum", unfollowed := true, recurses := true, plainKeys := false, apart := false }
def FnWidSumSaid : Prop := fnWidSumRow.holds Tryz.pinned (OpenSpec.ofChange fnWidSumSpec)

/-- ITS FALSE NEIGHBOUR: 'it returns false'. Refute it at one input. -/
def fnWidSumWrong : ChangeSpec := { name := "fnWidSum", fn := fun _ => fun
  | [d] => { results := [.lit (.bool false)], args := [d] }
  | _ => none }
def FnWidSumWrongFalsely : Prop := fnWidSumRow.holds Tryz.pinned (OpenSpec.ofChange fnWidSumWrong)

/-- 'laws.FnWidLeast': WHATEVER THE INPUT: true; the input reads as it did. -/
def fnWidLeastSpec : ChangeSpec := { name := "fnWidLeast", fn := fun _ => fun
  | [d] => { results := [.lit (.bool true)], args := [d] }
  | _ => none }
def fnWidLeastRow : OpenClaim := { program := "ytggmjiddadjilaegreat", sum := "6c0487e641b1f80d208b313ba21d2338e4811a172398dd6088177fb862e0e029", func := "loop.example/panework/laws.FnWidLeast", spec := "fnWidLeast", unfollowed := true, recurses := true, plainKeys := false, apart := false }
def FnWidLeastSaid : Prop := fnWidLeastRow.holds Tryz.pinned (OpenSpec.ofChange fnWidLeastSpec)

/-- ITS FALSE NEIGHBOUR: 'it returns false'. Refute it at one input. -/
def fnWidLeastWrong : ChangeSpec := { name := "fnWidLeast", fn := fun _ => fun
  | [d] => { results := [.lit (.bool false)], args := [d] }
  | _ => none }
def FnWidLeastWrongFalsely : Prop := fnWidLeastRow.holds Tryz.pinned (OpenSpec.ofChange fnWidLeastWrong)

/-- 'laws.FnWidWish': WHATEVER THE INPUT: true; the input reads as it did. -/
def fnWidWishSpec : ChangeSpec := { name := "fnWidWish", fn := fun _ => fun
  | [d] => { results := [.lit (.bool true)], args := [d] }
  | _ => none }
def fnWidWishRow : OpenClaim := { program := "ytggmjiddadjilaegreat", sum := "6c0487e641b1f80d208b313ba21d2338e4811a172398dd6088177fb862e0e029", func := "loop.example/panework/laws.FnWidWish", spec := "fnWidWish", inPlace := ["internal/abi.NoEscape"], unfollowed := true, recurses := true, plainKeys := false, apart := false }
def FnWidWishSaid : Prop := fnWidWishRow.holds Tryz.pinned (OpenSpec.ofChange fnWidWishSpec)

/-- ITS FALSE NEIGHBOUR: 'it returns false'. Refute it at one input. -/
def fnWidWishWrong : ChangeSpec := { name := "fnWidWish", fn := fun _ => fun
  | [d] => { results := [.lit (.bool false)], args := [d] }
  | _ => none }
def FnWidWishWrongFalsely : Prop := fnWidWishRow.holds Tryz.pinned (OpenSpec.ofChange fnWidWishWrong)

/- THE SECOND FORM. 'bulk': how many values and letters a reading holds, each counted each time it is reached (what is shared counts as often as it is met; a slice's spare places count too). A statement '..UptoSaid' is the law's where the arguments, and the package variables that the reading takes, are together of bulk at most 1048576: NARROWER than '..Said'. Prove '..Said' where nothing that the law and all that it calls make is longer than what came in: it says more and counts as full. Else prove '..UptoSaid'. A law counts once. -/
mutual
def uptoBulk {H : Type} : DataW H → Nat
  | .lit (.string bytes) => bytes.length + 1
  | .lit _ => 1
  | .nil => 1
  | .ptr d => uptoBulk d + 1
  | .slice elems spare => uptoBulkAll elems + uptoBulkAll spare + 1
  | .agg parts => uptoBulkAll parts + 1
  | .iface _ d => uptoBulk d + 1
  | .map entries => uptoBulkEntries entries + 1
  | .held _ => 1
def uptoBulkAll {H : Type} : List (DataW H) → Nat
  | [] => 0
  | d :: r => uptoBulk d + uptoBulkAll r
def uptoBulkEntries {H : Type} : List (Lit × DataW H) → Nat
  | [] => 0
  | x :: r => uptoBulkEntry x + uptoBulkEntries r
def uptoBulkEntry {H : Type} : Lit × DataW H → Nat
  | (.string bytes, d) => bytes.length + uptoBulk d + 1
  | (_, d) => uptoBulk d + 1
 end
def uptoSmall : (H : Type) → List (DataW H) → Bool := fun _ ds => decide (uptoBulkAll ds ≤ 1048576)
def OpenSpec.upto (s : _root_.Go.ChangeSpec) : _root_.Go.OpenSpec := { _root_.Go.OpenSpec.ofChange s with cond := some uptoSmall }

/-- 'laws.FnColFloor', WHERE WHAT IT READS IS OF BULK AT MOST 1048576: true; the input reads as it did. -/
def fnColFloorUptoRow : OpenClaim := { program := "ytggmjiddadjilaegreat", sum := "6c0487e641b1f80d208b313ba21d2338e4811a172398dd6088177fb862e0e029", func := "loop.example/panework/laws.FnColFloor", spec := "fnColFloor", unfollowed := true, recurses := true, plainKeys := false, apart := false, narrowed := true }
def FnColFloorUptoSaid : Prop := fnColFloorUptoRow.holds Tryz.pinned (OpenSpec.upto fnColFloorSpec)

/-- 'laws.FnWidSum', WHERE WHAT IT READS IS OF BULK AT MOST 1048576: true; the input reads as it did. -/
def fnWidSumUptoRow : OpenClaim := { program := "ytggmjiddadjilaegreat", sum := "6c0487e641b1f80d208b313ba21d2338e4811a172398dd6088177fb862e0e029", func := "loop.example/panework/laws.FnWidSum", spec := "fnWidSum", unfollowed := true, recurses := true, plainKeys := false, apart := false, narrowed := true }
def FnWidSumUptoSaid : Prop := fnWidSumUptoRow.holds Tryz.pinned (OpenSpec.upto fnWidSumSpec)

/-- 'laws.FnWidLeast', WHERE WHAT IT READS IS OF BULK AT MOST 1048576: true; the input reads as it did. -/
def fnWidLeastUptoRow : OpenClaim := { program := "ytggmjiddadjilaegreat", sum := "6c0487e641b1f80d208b313ba21d2338e4811a172398dd6088177fb862e0e029", func := "loop.example/panework/laws.FnWidLeast", spec := "fnWidLeast", unfollowed := true, recurses := true, plainKeys := false, apart := false, narrowed := true }
def FnWidLeastUptoSaid : Prop := fnWidLeastUptoRow.holds Tryz.pinned (OpenSpec.upto fnWidLeastSpec)

/-- 'laws.FnWidWish', WHERE WHAT IT READS IS OF BULK AT MOST 1048576: true; the input reads as it did. -/
def fnWidWishUptoRow : OpenClaim := { program := "ytggmjiddadjilaegreat", sum := "6c0487e641b1f80d208b313ba21d2338e4811a172398dd6088177fb862e0e029", func := "loop.example/panework/laws.FnWidWish", spec := "fnWidWish", inPlace := ["internal/abi.NoEscape"], unfollowed := true, recurses := true, plainKeys := false, apart := false, narrowed := true }
def FnWidWishUptoSaid : Prop := fnWidWishUptoRow.holds Tryz.pinned (OpenSpec.upto fnWidWishSpec)

end Rows
end Go.Proofs.YtggmjiddadjilaeGreat
