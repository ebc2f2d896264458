/-
  No cell of these rows narrows 'for every input' (looked for: loops, veiled, ifaces, maps, wideKeys, modest, calm, conditions, laid).
  DERIVED. THE GIVEN ROWS OF THIS SEAT. 4 by the template 'for every input the law returns true; each argument reads behind the call as it read before'; 0 by the template 'total and deterministic' (their statements: YtojogjlblgcioanGreatTotals.lean).
  GIVEN WITH THE SEED: the statements are not yours to turn. If you find one false, say at which input.
  Laid BY PROGRAM, IN A SANDBOX (cutbox-rows.mjs): the forced cells as the released guide's own fill.sh prints them over the translation 8090a23941f799ee… (all of the seat's roots in one cut). By AI agents, Wed Nov 11 2026. No macro, syntax, notation, axiom, sorry.
-/
import Derived.Test.YtojogjlblgcioanGreatChecked
import GoSem.Claim
import GoSem.ClaimJoined
import GoSem.ClaimMapViews
import Derived.JoinedTies
import Derived.KernelRfl
namespace Go.Proofs.YtojogjlblgcioanGreat
/- THE CELL 'sum', in the pinned program and in every row, IS THE sha256 OF THE DUMP (.gsa) THAT YtojogjlblgcioanGreatProg.lean LOADS. Nothing in Lean hashes anything: it is a label: what it is worth is what the hold of that sum in a sandbox is worth. -/
noncomputable def Tryz.pinned : Pinned := { name := "ytojogjlblgcioangreat", sum := "8090a23941f799ee584560c239b8b5c6d159ac8219d864d1bb39632d4e8283ea", checked := Tryz.checked }
namespace Rows
def none {H : Type} : Left H := { results := [], args := [] }

/-- 'laws.FnQryEmpty': WHATEVER THE INPUT: true; the input reads as it did. -/
def fnQryEmptySpec : ChangeSpec := { name := "fnQryEmpty", fn := fun _ => fun
  | [d] => { results := [.lit (.bool true)], args := [d] }
  | _ => none }
def fnQryEmptyRow : OpenClaim := { program := "ytojogjlblgcioangreat", sum := "8090a23941f799ee584560c239b8b5c6d159ac8219d864d1bb39632d4e8283ea", func := "loop.example/panework/laws.FnQryEmpty", spec := "fnQryEmpty", inPlace := ["internal/abi.NoEscape"], unfollowed := true, recurses := true, plainKeys := false, leaving := true, apart := false }
def FnQryEmptySaid : Prop := fnQryEmptyRow.holds Tryz.pinned (OpenSpec.ofChange fnQryEmptySpec)

/-- ITS FALSE NEIGHBOUR: 'it returns false'. Refute it at one input. -/
def fnQryEmptyWrong : ChangeSpec := { name := "fnQryEmpty", fn := fun _ => fun
  | [d] => { results := [.lit (.bool false)], args := [d] }
  | _ => none }
def FnQryEmptyWrongFalsely : Prop := fnQryEmptyRow.holds Tryz.pinned (OpenSpec.ofChange fnQryEmptyWrong)

/-- 'laws.FnExactQryRects': WHATEVER THE INPUT: true; the input reads as it did. -/
def fnExactQryRectsSpec : ChangeSpec := { name := "fnExactQryRects", fn := fun _ => fun
  | [d1, d2] => { results := [.lit (.bool true)], args := [d1, d2] }
  | _ => none }
def fnExactQryRectsRow : OpenClaim := { program := "ytojogjlblgcioangreat", sum := "8090a23941f799ee584560c239b8b5c6d159ac8219d864d1bb39632d4e8283ea", func := "loop.example/panework/laws.FnExactQryRects", spec := "fnExactQryRects", inPlace := ["internal/abi.NoEscape"], unfollowed := true, recurses := true, plainKeys := false, leaving := true, apart := false }
def FnExactQryRectsSaid : Prop := fnExactQryRectsRow.holds Tryz.pinned (OpenSpec.ofChange fnExactQryRectsSpec)

/-- ITS FALSE NEIGHBOUR: 'it returns false'. Refute it at one input. -/
def fnExactQryRectsWrong : ChangeSpec := { name := "fnExactQryRects", fn := fun _ => fun
  | [d1, d2] => { results := [.lit (.bool false)], args := [d1, d2] }
  | _ => none }
def FnExactQryRectsWrongFalsely : Prop := fnExactQryRectsRow.holds Tryz.pinned (OpenSpec.ofChange fnExactQryRectsWrong)

/-- 'laws.FnExactQryHit': WHATEVER THE INPUT: true; the input reads as it did. -/
def fnExactQryHitSpec : ChangeSpec := { name := "fnExactQryHit", fn := fun _ => fun
  | [d1, d2, d3, d4] => { results := [.lit (.bool true)], args := [d1, d2, d3, d4] }
  | _ => none }
def fnExactQryHitRow : OpenClaim := { program := "ytojogjlblgcioangreat", sum := "8090a23941f799ee584560c239b8b5c6d159ac8219d864d1bb39632d4e8283ea", func := "loop.example/panework/laws.FnExactQryHit", spec := "fnExactQryHit", inPlace := ["internal/abi.NoEscape"], unfollowed := true, recurses := true, plainKeys := false, leaving := true, apart := false }
def FnExactQryHitSaid : Prop := fnExactQryHitRow.holds Tryz.pinned (OpenSpec.ofChange fnExactQryHitSpec)

/-- ITS FALSE NEIGHBOUR: 'it returns false'. Refute it at one input. -/
def fnExactQryHitWrong : ChangeSpec := { name := "fnExactQryHit", fn := fun _ => fun
  | [d1, d2, d3, d4] => { results := [.lit (.bool false)], args := [d1, d2, d3, d4] }
  | _ => none }
def FnExactQryHitWrongFalsely : Prop := fnExactQryHitRow.holds Tryz.pinned (OpenSpec.ofChange fnExactQryHitWrong)

/-- 'laws.FnExactQryPicture': WHATEVER THE INPUT: true; the input reads as it did. -/
def fnExactQryPictureSpec : ChangeSpec := { name := "fnExactQryPicture", fn := fun _ => fun
  | [d1, d2] => { results := [.lit (.bool true)], args := [d1, d2] }
  | _ => none }
def fnExactQryPictureRow : OpenClaim := { program := "ytojogjlblgcioangreat", sum := "8090a23941f799ee584560c239b8b5c6d159ac8219d864d1bb39632d4e8283ea", func := "loop.example/panework/laws.FnExactQryPicture", spec := "fnExactQryPicture", inPlace := ["internal/abi.NoEscape", "(*sync.WaitGroup).Add", "internal/race.ReleaseMerge", "internal/race.Disable", "internal/race.Enable", "internal/synctest.IsInBubble", "internal/synctest.Associate[sync.WaitGroup]", "sync.fatal", "sync/atomic.OrUint64", "sync/atomic.AddUint64", "internal/race.Read", "sync/atomic.LoadUint64", "sync/atomic.StoreUint64", "internal/synctest.Disassociate[sync.WaitGroup]", "sync.runtime_Semrelease", "(*sync.WaitGroup).Done", "internal/bytealg.MakeNoZero", "(*sync.WaitGroup).Wait", "internal/race.Acquire", "internal/synctest.IsAssociated[sync.WaitGroup]", "sync/atomic.CompareAndSwapUint64", "internal/race.Write", "sync.runtime_SemacquireWaitGroup"], unfollowed := true, recurses := true, plainKeys := false, leaving := true, apart := false }
def FnExactQryPictureSaid : Prop := fnExactQryPictureRow.holds Tryz.pinned (OpenSpec.ofChange fnExactQryPictureSpec)

/-- ITS FALSE NEIGHBOUR: 'it returns false'. Refute it at one input. -/
def fnExactQryPictureWrong : ChangeSpec := { name := "fnExactQryPicture", fn := fun _ => fun
  | [d1, d2] => { results := [.lit (.bool false)], args := [d1, d2] }
  | _ => none }
def FnExactQryPictureWrongFalsely : Prop := fnExactQryPictureRow.holds Tryz.pinned (OpenSpec.ofChange fnExactQryPictureWrong)

/- THE SECOND FORM. 'bulk': how many values and letters a reading holds, each counted each time it is reached (what is shared counts as often as it is met; a slice's spare places count too). A statement '..UptoSaid' is the law's where the arguments, and the package variables that the reading takes, are together of bulk at most 1048576: NARROWER than '..Said'. Prove '..Said' where nothing that the law and all that it calls make is longer than what came in: it says more and counts as full. Else prove '..UptoSaid'. A law counts once. -/
mutual
def uptoBulk {H : Type} : DataW H → Nat
  | .lit (.string bytes) => bytes.length + 1
  | .lit _ => 1
  | .nil => 1
  | .ptr d => uptoBulk d + 1
  | .slice elems spare => uptoBulkAll elems + uptoBulkAll spare + 1
  | .agg parts => uptoBulkAll parts + 1
  | .iface _ d => uptoBulk d + 1
  | .map entries => uptoBulkEntries entries + 1
  | .held _ => 1
def uptoBulkAll {H : Type} : List (DataW H) → Nat
  | [] => 0
  | d :: r => uptoBulk d + uptoBulkAll r
def uptoBulkEntries {H : Type} : List (Lit × DataW H) → Nat
  | [] => 0
  | x :: r => uptoBulkEntry x + uptoBulkEntries r
def uptoBulkEntry {H : Type} : Lit × DataW H → Nat
  | (.string bytes, d) => bytes.length + uptoBulk d + 1
  | (_, d) => uptoBulk d + 1
 end
def uptoSmall : (H : Type) → List (DataW H) → Bool := fun _ ds => decide (uptoBulkAll ds ≤ 1048576)
def OpenSpec.upto (s : _root_.Go.ChangeSpec) : _root_.Go.OpenSpec := { _root_.Go.OpenSpec.ofChange s with cond := some uptoSmall }

/-- 'laws.FnQryEmpty', WHERE WHAT IT READS IS OF BULK AT MOST 1048576: true; the input reads as it did. -/
def fnQryEmptyUptoRow : OpenClaim := { program := "ytojogjlblgcioangreat", sum := "8090a23941f799ee584560c239b8b5c6d159ac8219d864d1bb39632d4e8283ea", func := "loop.example/panework/laws.FnQryEmpty", spec := "fnQryEmpty", inPlace := ["internal/abi.NoEscape"], unfollowed := true, recurses := true, plainKeys := false, leaving := true, apart := false, narrowed := true }
def FnQryEmptyUptoSaid : Prop := fnQryEmptyUptoRow.holds Tryz.pinned (OpenSpec.upto fnQryEmptySpec)

/-- 'laws.FnExactQryRects', WHERE WHAT IT READS IS OF BULK AT MOST 1048576: true; the input reads as it did. -/
def fnExactQryRectsUptoRow : OpenClaim := { program := "ytojogjlblgcioangreat", sum := "8090a23941f799ee584560c239b8b5c6d159ac8219d864d1bb39632d4e8283ea", func := "loop.example/panework/laws.FnExactQryRects", spec := "fnExactQryRects", inPlace := ["internal/abi.NoEscape"], unfollowed := true, recurses := true, plainKeys := false, leaving := true, apart := false, narrowed := true }
def FnExactQryRectsUptoSaid : Prop := fnExactQryRectsUptoRow.holds Tryz.pinned (OpenSpec.upto fnExactQryRectsSpec)

/-- 'laws.FnExactQryHit', WHERE WHAT IT READS IS OF BULK AT MOST 1048576: true; the input reads as it did. -/
def fnExactQryHitUptoRow : OpenClaim := { program := "ytojogjlblgcioangreat", sum := "8090a23941f799ee584560c239b8b5c6d159ac8219d864d1bb39632d4e8283ea", func := "loop.example/panework/laws.FnExactQryHit", spec := "fnExactQryHit", inPlace := ["internal/abi.NoEscape"], unfollowed := true, recurses := true, plainKeys := false, leaving := true, apart := false, narrowed := true }
def FnExactQryHitUptoSaid : Prop := fnExactQryHitUptoRow.holds Tryz.pinned (OpenSpec.upto fnExactQryHitSpec)

/-- 'laws.FnExactQryPicture', WHERE WHAT IT READS IS OF BULK AT MOST 1048576: true; the input reads as it did. -/
def fnExactQryPictureUptoRow : OpenClaim := { program := "ytojogjlblgcioangreat", sum := "8090a23941f799ee584560c239b8b5c6d159ac8219d864d1bb39632d4e8283ea", func := "loop.example/panework/laws.FnExactQryPicture", spec := "fnExactQryPicture", inPlace := ["internal/abi.NoEscape", "(*sync.WaitGroup).Add", "internal/race.ReleaseMerge", "internal/race.Disable", "internal/race.Enable", "internal/synctest.IsInBubble", "internal/synctest.Associate[sync.WaitGroup]", "sync.fatal", "sync/atomic.OrUint64", "sync/atomic.AddUint64", "internal/race.Read", "sync/atomic.LoadUint64", "sync/atomic.StoreUint64", "internal/synctest.Disassociate[sync.WaitGroup]", "sync.runtime_Semrelease", "(*sync.WaitGroup).Done", "internal/bytealg.MakeNoZero", "(*sync.WaitGroup).Wait", "internal/race.Acquire", "internal/synctest.IsAssociated[sync.WaitGroup]", "sync/atomic.CompareAndSwapUint64", "internal/race.Write", "sync.runtime_SemacquireWaitGroup"], unfollowed := true, recurses := true, plainKeys := false, leaving := true, apart := false, narrowed := true }
def FnExactQryPictureUptoSaid : Prop := fnExactQryPictureUptoRow.holds Tryz.pinned (OpenSpec.upto fnExactQryPictureSpec)

end Rows
end Go.Proofs.YtojogjlblgcioanGreat
