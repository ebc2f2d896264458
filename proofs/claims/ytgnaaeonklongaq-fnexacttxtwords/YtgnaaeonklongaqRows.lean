/-
  No cell of these rows narrows 'for every input' (looked for: loops, veiled, ifaces, maps, wideKeys, modest, calm, conditions, laid).
  DERIVED. THE GIVEN ROWS OF THIS SEAT. 5 by the template 'for every input the law returns true; each argument reads behind the call as it read before'; 0 by the template 'total and deterministic' (their statements: YtgnaaeonklongaqTotals.lean).
  GIVEN WITH THE SEED: the statements are not yours to turn. If you find one false, say at which input.
  Laid BY PROGRAM, IN A SANDBOX (cutbox-rows.mjs): the forced cells as the released guide's own fill.sh prints them over the translation d48a8e67b15cf448… (all of the seat's roots in one cut). By AI agents, Wed Nov 11 2026. No macro, syntax, notation, axiom, sorry.
-/
import Derived.Test.YtgnaaeonklongaqChecked
import GoSem.Claim
import GoSem.ClaimJoined
import GoSem.ClaimMapViews
import Derived.JoinedTies
import Derived.KernelRfl
namespace Go.Proofs.Ytgnaaeonklongaq
/- THE CELL 'sum', in the pinned program and in every row, IS THE sha256 OF THE DUMP (.gsa) THAT YtgnaaeonklongaqProg.lean LOADS. Nothing in Lean hashes anything: it is a label: what it is worth is what the hold of that sum in a sandbox is worth. -/
noncomputable def Try.pinned : Pinned := { name := "ytgnaaeonklongaq", sum := "d48a8e67b15cf448365ca276980be031e52fff3f8b871285e02464a5ee73ccfb", checked := Try.checked }
namespace Rows
def none {H : Type} : Left H := { results := [], args := [] }

/-- 'laws.FnExactCellRead': WHATEVER THE INPUT: true; the input reads as it did. -/
def fnExactCellReadSpec : ChangeSpec := { name := "fnExactCellRead", fn := fun _ => fun
  | [d] => { results := [.lit (.bool true)], args := [d] }
  | _ => none }
def fnExactCellReadRow : OpenClaim := { program := "ytgnaaeonklongaq", sum := "d48a8e67b15cf448365ca276980be031e52fff3f8b871285e02464a5ee73ccfb", func := "loop.example/panework/laws.FnExactCellRead", spec := "fnExactCellRead", apart := false }
def FnExactCellReadSaid : Prop := fnExactCellReadRow.holds Try.pinned (OpenSpec.ofChange fnExactCellReadSpec)

/-- ITS FALSE NEIGHBOUR: 'it returns false'. Refute it at one input. -/
def fnExactCellReadWrong : ChangeSpec := { name := "fnExactCellRead", fn := fun _ => fun
  | [d] => { results := [.lit (.bool false)], args := [d] }
  | _ => none }
def FnExactCellReadWrongFalsely : Prop := fnExactCellReadRow.holds Try.pinned (OpenSpec.ofChange fnExactCellReadWrong)

/-- 'laws.FnExactTxtOk': WHATEVER THE INPUT: true; the input reads as it did. -/
def fnExactTxtOkSpec : ChangeSpec := { name := "fnExactTxtOk", fn := fun _ => fun
  | [d] => { results := [.lit (.bool true)], args := [d] }
  | _ => none }
def fnExactTxtOkRow : OpenClaim := { program := "ytgnaaeonklongaq", sum := "d48a8e67b15cf448365ca276980be031e52fff3f8b871285e02464a5ee73ccfb", func := "loop.example/panework/laws.FnExactTxtOk", spec := "fnExactTxtOk", apart := false }
def FnExactTxtOkSaid : Prop := fnExactTxtOkRow.holds Try.pinned (OpenSpec.ofChange fnExactTxtOkSpec)

/-- ITS FALSE NEIGHBOUR: 'it returns false'. Refute it at one input. -/
def fnExactTxtOkWrong : ChangeSpec := { name := "fnExactTxtOk", fn := fun _ => fun
  | [d] => { results := [.lit (.bool false)], args := [d] }
  | _ => none }
def FnExactTxtOkWrongFalsely : Prop := fnExactTxtOkRow.holds Try.pinned (OpenSpec.ofChange fnExactTxtOkWrong)

/-- 'laws.FnExactTxtWords': WHATEVER THE INPUT: true; the input reads as it did. -/
def fnExactTxtWordsSpec : ChangeSpec := { name := "fnExactTxtWords", fn := fun _ => fun
  | [d] => { results := [.lit (.bool true)], args := [d] }
  | _ => none }
def fnExactTxtWordsRow : OpenClaim := { program := "ytgnaaeonklongaq", sum := "d48a8e67b15cf448365ca276980be031e52fff3f8b871285e02464a5ee73ccfb", func := "loop.example/panework/laws.FnExactTxtWords", spec := "fnExactTxtWords", unfollowed := true, recurses := true, apart := false }
def FnExactTxtWordsSaid : Prop := fnExactTxtWordsRow.holds Try.pinned (OpenSpec.ofChange fnExactTxtWordsSpec)

/-- ITS FALSE NEIGHBOUR: 'it returns false'. Refute it at one input. -/
def fnExactTxtWordsWrong : ChangeSpec := { name := "fnExactTxtWords", fn := fun _ => fun
  | [d] => { results := [.lit (.bool false)], args := [d] }
  | _ => none }
def FnExactTxtWordsWrongFalsely : Prop := fnExactTxtWordsRow.holds Try.pinned (OpenSpec.ofChange fnExactTxtWordsWrong)

/-- 'laws.FnExactTxtLeast': WHATEVER THE INPUT: true; the input reads as it did. -/
def fnExactTxtLeastSpec : ChangeSpec := { name := "fnExactTxtLeast", fn := fun _ => fun
  | [d] => { results := [.lit (.bool true)], args := [d] }
  | _ => none }
def fnExactTxtLeastRow : OpenClaim := { program := "ytgnaaeonklongaq", sum := "d48a8e67b15cf448365ca276980be031e52fff3f8b871285e02464a5ee73ccfb", func := "loop.example/panework/laws.FnExactTxtLeast", spec := "fnExactTxtLeast", unfollowed := true, recurses := true, apart := false }
def FnExactTxtLeastSaid : Prop := fnExactTxtLeastRow.holds Try.pinned (OpenSpec.ofChange fnExactTxtLeastSpec)

/-- ITS FALSE NEIGHBOUR: 'it returns false'. Refute it at one input. -/
def fnExactTxtLeastWrong : ChangeSpec := { name := "fnExactTxtLeast", fn := fun _ => fun
  | [d] => { results := [.lit (.bool false)], args := [d] }
  | _ => none }
def FnExactTxtLeastWrongFalsely : Prop := fnExactTxtLeastRow.holds Try.pinned (OpenSpec.ofChange fnExactTxtLeastWrong)

/-- 'laws.FnExactTxtWish': WHATEVER THE INPUT: true; the input reads as it did. -/
def fnExactTxtWishSpec : ChangeSpec := { name := "fnExactTxtWish", fn := fun _ => fun
  | [d] => { results := [.lit (.bool true)], args := [d] }
  | _ => none }
def fnExactTxtWishRow : OpenClaim := { program := "ytgnaaeonklongaq", sum := "d48a8e67b15cf448365ca276980be031e52fff3f8b871285e02464a5ee73ccfb", func := "loop.example/panework/laws.FnExactTxtWish", spec := "fnExactTxtWish", apart := false }
def FnExactTxtWishSaid : Prop := fnExactTxtWishRow.holds Try.pinned (OpenSpec.ofChange fnExactTxtWishSpec)

/-- ITS FALSE NEIGHBOUR: 'it returns false'. Refute it at one input. -/
def fnExactTxtWishWrong : ChangeSpec := { name := "fnExactTxtWish", fn := fun _ => fun
  | [d] => { results := [.lit (.bool false)], args := [d] }
  | _ => none }
def FnExactTxtWishWrongFalsely : Prop := fnExactTxtWishRow.holds Try.pinned (OpenSpec.ofChange fnExactTxtWishWrong)

/- THE SECOND FORM. 'bulk': how many values and letters a reading holds, each counted each time it is reached (what is shared counts as often as it is met; a slice's spare places count too). A statement '..UptoSaid' is the law's where the arguments, and the package variables that the reading takes, are together of bulk at most 1048576: NARROWER than '..Said'. Prove '..Said' where nothing that the law and all that it calls make is longer than what came in: it says more and counts as full. Else prove '..UptoSaid'. A law counts once. -/
mutual
def uptoBulk {H : Type} : DataW H → Nat
  | .lit (.string bytes) => bytes.length + 1
  | .lit _ => 1
  | .nil => 1
  | .ptr d => uptoBulk d + 1
  | .slice elems spare => uptoBulkAll elems + uptoBulkAll spare + 1
  | .agg parts => uptoBulkAll parts + 1
  | .iface _ d => uptoBulk d + 1
  | .map entries => uptoBulkEntries entries + 1
  | .held _ => 1
def uptoBulkAll {H : Type} : List (DataW H) → Nat
  | [] => 0
  | d :: r => uptoBulk d + uptoBulkAll r
def uptoBulkEntries {H : Type} : List (Lit × DataW H) → Nat
  | [] => 0
  | x :: r => uptoBulkEntry x + uptoBulkEntries r
def uptoBulkEntry {H : Type} : Lit × DataW H → Nat
  | (.string bytes, d) => bytes.length + uptoBulk d + 1
  | (_, d) => uptoBulk d + 1
 end
def uptoSmall : (H : Type) → List (DataW H) → Bool := fun _ ds => decide (uptoBulkAll ds ≤ 1048576)
def OpenSpec.upto (s : _root_.Go.ChangeSpec) : _root_.Go.OpenSpec := { _root_.Go.OpenSpec.ofChange s with cond := some uptoSmall }

/-- 'laws.FnExactCellRead', WHERE WHAT IT READS IS OF BULK AT MOST 1048576: true; the input reads as it did. -/
def fnExactCellReadUptoRow : OpenClaim := { program := "ytgnaaeonklongaq", sum := "d48a8e67b15cf448365ca276980be031e52fff3f8b871285e02464a5ee73ccfb", func := "loop.example/panework/laws.FnExactCellRead", spec := "fnExactCellRead", apart := false, narrowed := true }
def FnExactCellReadUptoSaid : Prop := fnExactCellReadUptoRow.holds Try.pinned (OpenSpec.upto fnExactCellReadSpec)

/-- 'laws.FnExactTxtOk', WHERE WHAT IT READS IS OF BULK AT MOST 1048576: true; the input reads as it did. -/
def fnExactTxtOkUptoRow : OpenClaim := { program := "ytgnaaeonklongaq", sum := "d48a8e67b15cf448365ca276980be031e52fff3f8b871285e02464a5ee73ccfb", func := "loop.example/panework/laws.FnExactTxtOk", spec := "fnExactTxtOk", apart := false, narrowed := true }
def FnExactTxtOkUptoSaid : Prop := fnExactTxtOkUptoRow.holds Try.pinned (OpenSpec.upto fnExactTxtOkSpec)

/-- 'laws.FnExactTxtWords', WHERE WHAT IT READS IS OF BULK AT MOST 1048576: true; the input reads as it did. -/
def fnExactTxtWordsUptoRow : OpenClaim := { program := "ytgnaaeonklongaq", sum := "d48a8e67b15cf448365ca276980be031e52fff3f8b871285e02464a5ee73ccfb", func := "loop.example/panework/laws.FnExactTxtWords", spec := "fnExactTxtWords", unfollowed := true, recurses := true, apart := false, narrowed := true }
def FnExactTxtWordsUptoSaid : Prop := fnExactTxtWordsUptoRow.holds Try.pinned (OpenSpec.upto fnExactTxtWordsSpec)

/-- 'laws.FnExactTxtLeast', WHERE WHAT IT READS IS OF BULK AT MOST 1048576: true; the input reads as it did. -/
def fnExactTxtLeastUptoRow : OpenClaim := { program := "ytgnaaeonklongaq", sum := "d48a8e67b15cf448365ca276980be031e52fff3f8b871285e02464a5ee73ccfb", func := "loop.example/panework/laws.FnExactTxtLeast", spec := "fnExactTxtLeast", unfollowed := true, recurses := true, apart := false, narrowed := true }
def FnExactTxtLeastUptoSaid : Prop := fnExactTxtLeastUptoRow.holds Try.pinned (OpenSpec.upto fnExactTxtLeastSpec)

/-- 'laws.FnExactTxtWish', WHERE WHAT IT READS IS OF BULK AT MOST 1048576: true; the input reads as it did. -/
def fnExactTxtWishUptoRow : OpenClaim := { program := "ytgnaaeonklongaq", sum := "d48a8e67b15cf448365ca276980be031e52fff3f8b871285e02464a5ee73ccfb", func := "loop.example/panework/laws.FnExactTxtWish", spec := "fnExactTxtWish", apart := false, narrowed := true }
def FnExactTxtWishUptoSaid : Prop := fnExactTxtWishUptoRow.holds Try.pinned (OpenSpec.upto fnExactTxtWishSpec)

end Rows
end Go.Proofs.Ytgnaaeonklongaq
