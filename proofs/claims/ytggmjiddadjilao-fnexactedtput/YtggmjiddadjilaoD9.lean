/-
  PROVED HERE: what slices.Clone answers of columns, rows and cells: the same ones, in memory of the call's own; nothing that was in memory is turned. Also: what the program's BrdOk answers at every border. Also: what the program's CellOk answers at every cell whose text is a Go string. Also: what the program's columnOk answers at every column. Also: what the program's columnsOk, rowOk, rowsOk and partsOk answer at a table that lies in memory; nothing that was in memory is turned.
-/
import Derived.Test.YtggmjiddadjilaoD4
import Derived.Test.YtggmjiddadjilaoD6
import Derived.WalkLawsBesides
import Derived.WalkSpells
import Derived.Deep.RegionWith
import Derived.Deep.QuietTactic
import Derived.BigQuiet
import Derived.Deep.Cut
import Derived.Laws.AppendOwn
import Derived.Lib.SliceRun
import Derived.Lib.Walk
import Derived.WalkKit
import Derived.Deep.LoopGhost
namespace Go.Proofs.Ytggmjiddadjilao
open Go.RowKit Go.Lib

theorem infoColn:(Try.prog.info? 120).map (fun i=>(i.zero,i.size,i.bytes))=some (some (Value.agg #[.int .i64 0,.int .i64 0]),2,16):=by kernel_rfl
set_option maxRecDepth 100000 in
set_option maxHeartbeats 2000000 in
theorem cloneCol (a:Option Addr) (n cap:Nat) (news:List Value) (hl:news.length=n * 2) (hn:n≤1048576) (h1:∀ u ∈ news,u.oneCell'=true) (ha:n ≠ 0→a ≠ none) (w:World)
  (hc:∀ p,a=some p→∀ j u,news[j]?=some u→w.cell? (p.add j)=some u) :
  Calls Try.prog 83 #[.slice a n cap] w fun e w'=>∃ v',e=.returned v'∧w'.ownsRow w.heap.size 120 2 v' n news∧Below w.heap.size w w':=by
 rcases a with _ | p
 ·obtain rfl:n=0:=by
   rcases Nat.eq_zero_or_pos n with h | h
   ·exact h
   ·exact absurd rfl (ha (by omega))
  obtain rfl:news=[]:=List.length_eq_zero_iff.1 (by omega)
  have hq:∀ (w:World),(binOp .eql 53 (.slice none 0 cap) (.slice none 0 0)).run Try.prog w=.ok (.bool true) w:=fun w=>Lib.run_eql_slice_nil w _ _ none 0 cap 0 0 Try.underlying53
  go_enter Try.func83,Try.ntmps83
  go_wp2
  go_ret
  exact ⟨_,rfl,⟨rfl,.inl ⟨rfl,rfl⟩⟩,Below.refl _ _⟩
 ·obtain ⟨i0,hi0,hz0,hz1,hz2⟩:=info_parts infoColn
  have hq:∀ (w:World),(binOp .eql 53 (.slice (some p) n cap) (.slice none 0 0)).run Try.prog w=.ok (.bool false) w:=fun w=>Lib.run_eql_slice_nil w _ _ (some p) n cap 0 0 Try.underlying53
  have HC:=Hid.intro (hc p rfl)
  clear hc
  go_enter Try.func83,Try.ntmps83
  go_wp2_with (at_builtin;refine wpList_append_own _ rfl _ _ 53 rfl w.heap.size 120 i0 _ 2 16 Try.underlying53 hi0 hz0 hz1 hz2 rfl (by decide) _ _ _ rfl (World.ownsRow_made w #[] 0 (Nat.le_refl _) (Nat.zero_le _) (by simp)) p n cap news rfl hl ?qc2 h1 ?qc4 ?qc5 ?qc6 ?_)
  case qc2 =>
   intro j u hj
   exact Lib.cell?_alloc_some _ (HC.out j u hj)
  case qc4=>rw [Nat.zero_add];unfold maxLen;omega
  case qc5=>rw [Nat.zero_add];omega
  case qc6=>simp
  intro v' w1 hown hgrow hnil
  go_wp2
  go_ret
  exact ⟨v',rfl,by simpa using hown,((Below.refl _ w).alloc (Nat.le_refl _) _).grown hgrow (by simp) (by intro k hk;simp [Value.ownBlock] at hk;omega)⟩

theorem infoRown:(Try.prog.info? 88).map (fun i=>(i.zero,i.size,i.bytes))=some (some (Value.agg #[.slice none 0 0,.bool false]),2,32):=by kernel_rfl
set_option maxRecDepth 100000 in
set_option maxHeartbeats 2000000 in
theorem cloneRow (a:Option Addr) (n cap:Nat) (news:List Value) (hl:news.length=n * 2) (hn:n≤1048576) (h1:∀ u ∈ news,u.oneCell'=true) (ha:n ≠ 0→a ≠ none) (w:World)
  (hc:∀ p,a=some p→∀ j u,news[j]?=some u→w.cell? (p.add j)=some u) :
  Calls Try.prog 84 #[.slice a n cap] w fun e w'=>∃ v',e=.returned v'∧w'.ownsRow w.heap.size 88 2 v' n news∧Below w.heap.size w w':=by
 rcases a with _ | p
 ·obtain rfl:n=0:=by
   rcases Nat.eq_zero_or_pos n with h | h
   ·exact h
   ·exact absurd rfl (ha (by omega))
  obtain rfl:news=[]:=List.length_eq_zero_iff.1 (by omega)
  have hq:∀ (w:World),(binOp .eql 54 (.slice none 0 cap) (.slice none 0 0)).run Try.prog w=.ok (.bool true) w:=fun w=>Lib.run_eql_slice_nil w _ _ none 0 cap 0 0 Try.underlying54
  go_enter Try.func84,Try.ntmps84
  go_wp2
  go_ret
  exact ⟨_,rfl,⟨rfl,.inl ⟨rfl,rfl⟩⟩,Below.refl _ _⟩
 ·obtain ⟨i0,hi0,hz0,hz1,hz2⟩:=info_parts infoRown
  have hq:∀ (w:World),(binOp .eql 54 (.slice (some p) n cap) (.slice none 0 0)).run Try.prog w=.ok (.bool false) w:=fun w=>Lib.run_eql_slice_nil w _ _ (some p) n cap 0 0 Try.underlying54
  have HC:=Hid.intro (hc p rfl)
  clear hc
  go_enter Try.func84,Try.ntmps84
  go_wp2_with (at_builtin;refine wpList_append_own _ rfl _ _ 54 rfl w.heap.size 88 i0 _ 2 32 Try.underlying54 hi0 hz0 hz1 hz2 rfl (by decide) _ _ _ rfl (World.ownsRow_made w #[] 0 (Nat.le_refl _) (Nat.zero_le _) (by simp)) p n cap news rfl hl ?qc2 h1 ?qc4 ?qc5 ?qc6 ?_)
  case qc2 =>
   intro j u hj
   exact Lib.cell?_alloc_some _ (HC.out j u hj)
  case qc4=>rw [Nat.zero_add];unfold maxLen;omega
  case qc5=>rw [Nat.zero_add];omega
  case qc6=>simp
  intro v' w1 hown hgrow hnil
  go_wp2
  go_ret
  exact ⟨v',rfl,by simpa using hown,((Below.refl _ w).alloc (Nat.le_refl _) _).grown hgrow (by simp) (by intro k hk;simp [Value.ownBlock] at hk;omega)⟩

theorem infoCelln:(Try.prog.info? 62).map (fun i=>(i.zero,i.size,i.bytes))=some (some (Value.agg #[.string ⟨#[]⟩,.int .i64 0,.int .i64 0,.int .i64 0,.int .i64 0,.int .i64 0,.int .i64 0,.int .i64 0,.int .i64 0,.int .i64 0,.int .i64 0]),11,96):=by kernel_rfl
set_option maxRecDepth 100000 in
set_option maxHeartbeats 2000000 in
theorem cloneCell (a:Option Addr) (n cap:Nat) (news:List Value) (hl:news.length=n * 11) (hn:n≤1048576) (h1:∀ u ∈ news,u.oneCell'=true) (ha:n ≠ 0→a ≠ none) (w:World)
  (hc:∀ p,a=some p→∀ j u,news[j]?=some u→w.cell? (p.add j)=some u) :
  Calls Try.prog 85 #[.slice a n cap] w fun e w'=>∃ v',e=.returned v'∧w'.ownsRow w.heap.size 62 11 v' n news∧Below w.heap.size w w':=by
 rcases a with _ | p
 ·obtain rfl:n=0:=by
   rcases Nat.eq_zero_or_pos n with h | h
   ·exact h
   ·exact absurd rfl (ha (by omega))
  obtain rfl:news=[]:=List.length_eq_zero_iff.1 (by omega)
  have hq:∀ (w:World),(binOp .eql 86 (.slice none 0 cap) (.slice none 0 0)).run Try.prog w=.ok (.bool true) w:=fun w=>Lib.run_eql_slice_nil w _ _ none 0 cap 0 0 Try.underlying86
  go_enter Try.func85,Try.ntmps85
  go_wp2
  go_ret
  exact ⟨_,rfl,⟨rfl,.inl ⟨rfl,rfl⟩⟩,Below.refl _ _⟩
 ·obtain ⟨i0,hi0,hz0,hz1,hz2⟩:=info_parts infoCelln
  have hq:∀ (w:World),(binOp .eql 86 (.slice (some p) n cap) (.slice none 0 0)).run Try.prog w=.ok (.bool false) w:=fun w=>Lib.run_eql_slice_nil w _ _ (some p) n cap 0 0 Try.underlying86
  have HC:=Hid.intro (hc p rfl)
  clear hc
  go_enter Try.func85,Try.ntmps85
  go_wp2_with (at_builtin;refine wpList_append_own _ rfl _ _ 86 rfl w.heap.size 62 i0 _ 11 96 Try.underlying86 hi0 hz0 hz1 hz2 rfl (by decide) _ _ _ rfl (World.ownsRow_made w #[] 0 (Nat.le_refl _) (Nat.zero_le _) (by simp)) p n cap news rfl hl ?qc2 h1 ?qc4 ?qc5 ?qc6 ?_)
  case qc2 =>
   intro j u hj
   exact Lib.cell?_alloc_some _ (HC.out j u hj)
  case qc4=>rw [Nat.zero_add];unfold maxLen;omega
  case qc5=>rw [Nat.zero_add];omega
  case qc6=>simp
  intro v' w1 hown hgrow hnil
  go_wp2
  go_ret
  exact ⟨v',rfl,by simpa using hown,((Below.refl _ w).alloc (Nat.le_refl _) _).grown hgrow (by simp) (by intro k hk;simp [Value.ownBlock] at hk;omega)⟩
end Go.Proofs.Ytggmjiddadjilao
namespace Go.Proofs.Ytggmjiddadjilao
open Go.RowKit

set_option maxRecDepth 100000 in
set_option maxHeartbeats 400000 in
theorem implBrdOk (a b:Int) (w:World) :
  Calls Try.prog 87 #[.agg #[.int .i64 a,.int .i64 b]] w fun e w'=>e=.returned (.bool (brdOkB a b))∧w'=w.alloc (.cells #[.int .i64 a,.int .i64 b] 60):=by
 by_cases h0:a=0
 ·subst h0
  go_enter Try.func87,Try.ntmps87
  go_wp2
  go_ret
  exact ⟨retB (brd_zero b).symm,rfl⟩
 by_cases h4:a=4
 ·subst h4
  go_enter Try.func87,Try.ntmps87
  go_wp2
  go_ret
  exact ⟨retB (brd_four b).symm,rfl⟩
 by_cases h1:a=1
 ·subst h1
  go_enter Try.func87,Try.ntmps87
  go_wp2_with (go_at_call 55;refine (within_any _ _ _ _).mono ?_;rintro e w' ⟨rfl,rfl⟩)
  go_ret
  exact ⟨retB (brd_seen b (by omega) (by omega)).symm,rfl⟩
 by_cases h2:a=2
 ·subst h2
  go_enter Try.func87,Try.ntmps87
  go_wp2_with (go_at_call 55;refine (within_any _ _ _ _).mono ?_;rintro e w' ⟨rfl,rfl⟩)
  go_ret
  exact ⟨retB (brd_seen b (by omega) (by omega)).symm,rfl⟩
 by_cases h3:a=3
 ·subst h3
  go_enter Try.func87,Try.ntmps87
  go_wp2_with (go_at_call 55;refine (within_any _ _ _ _).mono ?_;rintro e w' ⟨rfl,rfl⟩)
  go_ret
  exact ⟨retB (brd_seen b (by omega) (by omega)).symm,rfl⟩
 have e0:(a == 0)=false:=beq_eq_false_iff_ne.2 h0
 have e1:(a == 1)=false:=beq_eq_false_iff_ne.2 h1
 have e2:(a == 2)=false:=beq_eq_false_iff_ne.2 h2
 have e3:(a == 3)=false:=beq_eq_false_iff_ne.2 h3
 have e4:(a == 4)=false:=beq_eq_false_iff_ne.2 h4
 have HB:Hid (brdOkB a b=false):=brd_other b h0 h4 (by omega)
 clear h0 h1 h2 h3 h4
 go_enter Try.func87,Try.ntmps87
 go_wp2
 go_ret
 exact ⟨retB HB.out.symm,rfl⟩
end Go.Proofs.Ytggmjiddadjilao
namespace Go.Proofs.Ytggmjiddadjilao
open Go.RowKit

set_option maxRecDepth 100000 in
set_option maxHeartbeats 1000000 in
theorem implCellOk (s:ByteArray) (c r a1 b1 a2 b2 a3 b3 a4 b4:Int) (w:World) (hs:s.size≤maxLen) :
  Calls Try.prog 54 #[.agg #[.string s,.int .i64 c,.int .i64 r,.int .i64 a1,.int .i64 b1,.int .i64 a2,.int .i64 b2,.int .i64 a3,.int .i64 b3,.int .i64 a4,.int .i64 b4]] w fun e w'=>e=.returned (.bool (cellOkB s c r a1 b1 a2 b2 a3 b3 a4 b4))∧Below w.heap.size w w':=by
 cases h0:txtOkB s
 ·
  as_aux_lemma =>
   have HB:Hid (cellOkB s c r a1 b1 a2 b2 a3 b3 a4 b4=false):=Hid.mk (by simp [cellOkB,h0])
   go_enter Try.func54,Try.ntmps54
   go_wp2_with (first | (go_at_call 86;refine (implTxtOk _ _ hs).mono ?_;rintro e w' ⟨rfl,rfl⟩) | (go_at_call 55;refine (within_any _ _ _ _).mono ?_;rintro e w' ⟨rfl,rfl⟩) | (go_at_call 87;refine (implBrdOk _ _ _).mono ?_;rintro e w' ⟨rfl,rfl⟩))
   go_ret
   exact ⟨retB HB.out.symm,by repeat (first | exact Below.refl _ _ | apply k_alloc)⟩
 cases h1:inB c 1 4
 ·
  as_aux_lemma =>
   have HB:Hid (cellOkB s c r a1 b1 a2 b2 a3 b3 a4 b4=false):=Hid.mk (by simp [cellOkB,h0,h1])
   go_enter Try.func54,Try.ntmps54
   go_wp2_with (first | (go_at_call 86;refine (implTxtOk _ _ hs).mono ?_;rintro e w' ⟨rfl,rfl⟩) | (go_at_call 55;refine (within_any _ _ _ _).mono ?_;rintro e w' ⟨rfl,rfl⟩) | (go_at_call 87;refine (implBrdOk _ _ _).mono ?_;rintro e w' ⟨rfl,rfl⟩))
   go_ret
   exact ⟨retB HB.out.symm,by repeat (first | exact Below.refl _ _ | apply k_alloc)⟩
 cases h2:inB r 1 4
 ·
  as_aux_lemma =>
   have HB:Hid (cellOkB s c r a1 b1 a2 b2 a3 b3 a4 b4=false):=Hid.mk (by simp [cellOkB,h0,h1,h2])
   go_enter Try.func54,Try.ntmps54
   go_wp2_with (first | (go_at_call 86;refine (implTxtOk _ _ hs).mono ?_;rintro e w' ⟨rfl,rfl⟩) | (go_at_call 55;refine (within_any _ _ _ _).mono ?_;rintro e w' ⟨rfl,rfl⟩) | (go_at_call 87;refine (implBrdOk _ _ _).mono ?_;rintro e w' ⟨rfl,rfl⟩))
   go_ret
   exact ⟨retB HB.out.symm,by repeat (first | exact Below.refl _ _ | apply k_alloc)⟩
 cases h3:brdOkB a1 b1
 ·
  as_aux_lemma =>
   have HB:Hid (cellOkB s c r a1 b1 a2 b2 a3 b3 a4 b4=false):=Hid.mk (by simp [cellOkB,h0,h1,h2,h3])
   go_enter Try.func54,Try.ntmps54
   go_wp2_with (first | (go_at_call 86;refine (implTxtOk _ _ hs).mono ?_;rintro e w' ⟨rfl,rfl⟩) | (go_at_call 55;refine (within_any _ _ _ _).mono ?_;rintro e w' ⟨rfl,rfl⟩) | (go_at_call 87;refine (implBrdOk _ _ _).mono ?_;rintro e w' ⟨rfl,rfl⟩))
   go_ret
   exact ⟨retB HB.out.symm,by repeat (first | exact Below.refl _ _ | apply k_alloc)⟩
 cases h4:brdOkB a2 b2
 ·
  as_aux_lemma =>
   have HB:Hid (cellOkB s c r a1 b1 a2 b2 a3 b3 a4 b4=false):=Hid.mk (by simp [cellOkB,h0,h1,h2,h3,h4])
   go_enter Try.func54,Try.ntmps54
   go_wp2_with (first | (go_at_call 86;refine (implTxtOk _ _ hs).mono ?_;rintro e w' ⟨rfl,rfl⟩) | (go_at_call 55;refine (within_any _ _ _ _).mono ?_;rintro e w' ⟨rfl,rfl⟩) | (go_at_call 87;refine (implBrdOk _ _ _).mono ?_;rintro e w' ⟨rfl,rfl⟩))
   go_ret
   exact ⟨retB HB.out.symm,by repeat (first | exact Below.refl _ _ | apply k_alloc)⟩
 cases h5:brdOkB a3 b3
 ·
  as_aux_lemma =>
   have HB:Hid (cellOkB s c r a1 b1 a2 b2 a3 b3 a4 b4=false):=Hid.mk (by simp [cellOkB,h0,h1,h2,h3,h4,h5])
   go_enter Try.func54,Try.ntmps54
   go_wp2_with (first | (go_at_call 86;refine (implTxtOk _ _ hs).mono ?_;rintro e w' ⟨rfl,rfl⟩) | (go_at_call 55;refine (within_any _ _ _ _).mono ?_;rintro e w' ⟨rfl,rfl⟩) | (go_at_call 87;refine (implBrdOk _ _ _).mono ?_;rintro e w' ⟨rfl,rfl⟩))
   go_ret
   exact ⟨retB HB.out.symm,by repeat (first | exact Below.refl _ _ | apply k_alloc)⟩
 as_aux_lemma =>
  have HB:Hid (cellOkB s c r a1 b1 a2 b2 a3 b3 a4 b4=brdOkB a4 b4):=Hid.mk (by simp [cellOkB,h0,h1,h2,h3,h4,h5])
  go_enter Try.func54,Try.ntmps54
  go_wp2_with (first | (go_at_call 86;refine (implTxtOk _ _ hs).mono ?_;rintro e w' ⟨rfl,rfl⟩) | (go_at_call 55;refine (within_any _ _ _ _).mono ?_;rintro e w' ⟨rfl,rfl⟩) | (go_at_call 87;refine (implBrdOk _ _ _).mono ?_;rintro e w' ⟨rfl,rfl⟩))
  go_ret
  exact ⟨retB HB.out.symm,by repeat (first | exact Below.refl _ _ | apply k_alloc)⟩
end Go.Proofs.Ytggmjiddadjilao
namespace Go.Proofs.Ytggmjiddadjilao
open Go.RowKit

theorem ta_auto_fixed (n:Int) (w:World):(Instr.typeAssert (.iface 163 (.agg #[.int .i64 n])) 155 165 true).run Try.prog w=.ok (.tuple #[.agg #[.int .i64 0],.bool false]) w:=by kernel_rfl
theorem ta_auto_part (n:Int) (w:World):(Instr.typeAssert (.iface 163 (.agg #[.int .i64 n])) 155 167 true).run Try.prog w=.ok (.tuple #[.agg #[.int .i64 0],.bool false]) w:=by kernel_rfl
theorem ta_fixed_fixed (n:Int) (w:World):(Instr.typeAssert (.iface 165 (.agg #[.int .i64 n])) 155 165 true).run Try.prog w=.ok (.tuple #[.agg #[.int .i64 n],.bool true]) w:=by kernel_rfl
theorem ta_part_fixed (n:Int) (w:World):(Instr.typeAssert (.iface 167 (.agg #[.int .i64 n])) 155 165 true).run Try.prog w=.ok (.tuple #[.agg #[.int .i64 0],.bool false]) w:=by kernel_rfl
theorem ta_part_part (n:Int) (w:World):(Instr.typeAssert (.iface 167 (.agg #[.int .i64 n])) 155 167 true).run Try.prog w=.ok (.tuple #[.agg #[.int .i64 n],.bool true]) w:=by kernel_rfl
theorem me_auto (n : Int) (w : World) : (method 284 163 (.agg #[.int .i64 n]) "loop.example/panework/impl.number").run Try.prog w = .ok (137, .agg #[.int .i64 n]) w := by kernel_rfl
theorem me_fixed (n : Int) (w : World) : (method 284 165 (.agg #[.int .i64 n]) "loop.example/panework/impl.number").run Try.prog w = .ok (138, .agg #[.int .i64 n]) w := by kernel_rfl
theorem me_part (n : Int) (w : World) : (method 284 167 (.agg #[.int .i64 n]) "loop.example/panework/impl.number").run Try.prog w = .ok (139, .agg #[.int .i64 n]) w := by kernel_rfl

set_option maxRecDepth 100000 in
set_option maxHeartbeats 1000000 in
theorem implColumnOk (k n:Int) (w:World) :
  Calls Try.prog 112 #[.agg #[.int .i64 k,.int .i64 n]] w fun e w'=>e=.returned (.bool (colB k n))∧Below w.heap.size w w':=by
 by_cases h0:k=0
 ·subst h0
  have t1:=fun w=>ta_auto_fixed n w
  have t2:=fun w=>ta_auto_part n w
  have t3:=fun w=>me_auto n w
  have HC:=Hid.intro (colB_0 n)
  go_enter Try.func112,Try.ntmps112
  go_wp2_with (first | (go_at_call 55;refine (within_any _ _ _ _).mono ?_;rintro e w' ⟨rfl,rfl⟩) | go_in)
  go_ret
  exact ⟨retB HC.out.symm,by repeat (first | refine k_alloc ?_ _ | exact Below.refl _ _)⟩
 by_cases h1:k=1
 ·subst h1
  have t1:=fun w=>ta_fixed_fixed n w
  have t3:=fun w=>me_fixed n w
  have HC:=Hid.intro (colB_1 n)
  go_enter Try.func112,Try.ntmps112
  go_wp2_with (first | (go_at_call 55;refine (within_any _ _ _ _).mono ?_;rintro e w' ⟨rfl,rfl⟩) | go_in)
  go_ret
  exact ⟨retB HC.out.symm,by repeat (first | refine k_alloc ?_ _ | exact Below.refl _ _)⟩
 by_cases h2:k=2
 ·subst h2
  have t1:=fun w=>ta_part_fixed n w
  have t2:=fun w=>ta_part_part n w
  have t3:=fun w=>me_part n w
  have HC:=Hid.intro (colB_2 n)
  go_enter Try.func112,Try.ntmps112
  go_wp2_with (first | (go_at_call 55;refine (within_any _ _ _ _).mono ?_;rintro e w' ⟨rfl,rfl⟩) | go_in)
  go_ret
  exact ⟨retB HC.out.symm,by repeat (first | refine k_alloc ?_ _ | exact Below.refl _ _)⟩
 have e0:(k == 0)=false:=beq_eq_false_iff_ne.2 h0
 have e1:(k == 1)=false:=beq_eq_false_iff_ne.2 h1
 have e2:(k == 2)=false:=beq_eq_false_iff_ne.2 h2
 have HC:=Hid.intro (colB_no n h0 h1 h2)
 clear h0 h1 h2
 go_enter Try.func112,Try.ntmps112
 go_wp2
 go_ret
 exact ⟨retB HC.out.symm,by repeat (first | refine k_alloc ?_ _ | exact Below.refl _ _)⟩
end Go.Proofs.Ytggmjiddadjilao
namespace Go.Proofs.Ytggmjiddadjilao
open Go.RowKit

set_option maxRecDepth 100000 in
set_option maxHeartbeats 1000000 in
theorem columnsOk_any (v:Value) (ps:List (Int × Int)) (w:World) {z:Nat} (h:ColsAt w z v ps) :
  Calls Try.prog 105 #[v] w fun e w'=>e=.returned (.bool (colsB ps))∧Below w.heap.size w w':=by
 obtain ⟨a,cap,rfl,hlen⟩:=At.form h
 unfold maxLen at hlen
 have H:=Hid.intro h
 clear h
 by_cases h8:(8:Int) < (ps.length:Int)
 ·have HF:Hid (colsB ps=false):=Hid.intro (by have:¬ ps.length≤8:=by omega
                                              simp [colsB,this])
  go_enter Try.func105,Try.ntmps105
  go_wp2
  go_ret
  exact ⟨retB HF.out.symm,Below.refl _ _⟩
 ·have h8':ps.length≤8:=by omega
  go_enter Try.func105,Try.ntmps105
  go_wp2_with fail
  go_loopw [4,10] (fun _ i W=>∃ k:Nat,k≤ps.length∧i=.int .i64 k∧Hid (∀ j,j < k→(fun p:Int × Int=>colB p.1 p.2) (ps.getD j (0,0))=true)∧Hid (Below w.heap.size w W)) (fun _ i _=>ps.length - (intOf i).toNat)
  case atStart=>exact ⟨0,Nat.zero_le _,rfl,fun j hj=>absurd hj (Nat.not_lt_zero _),Below.refl _ _⟩
  case round =>
   obtain ⟨k,hk,rfl,HA,HB⟩:=hrel
   by_cases hlt:k < ps.length
   ·obtain ⟨b,off,cap',e',hc1,hc2,hbl,hx0,hx1⟩:=At.get (H.out.kept HB.out) hlt
    simp only [Value.slice.injEq,true_and] at e'
    obtain ⟨rfl,rfl⟩:=e'
    unfold maxLen at hc2
    cases hv:colB (ps.getD k (0,0)).1 (ps.getD k (0,0)).2
    ·have HF:Hid (colsB ps=false):=Hid.intro (by rw [colsB,all_false (0,0) (fun p:Int × Int=>colB p.1 p.2) ps k hlt hv,Bool.and_false])
     generalize ps.getD k (0,0)=x at hx0 hx1 hv
     go_wp2_with fail
     refine (implColumnOk _ _ _).mono ?_
     rw [hv]
     rintro e w1 ⟨rfl,hb1⟩
     have K1:=Hid.intro (k_trans (k_alloc HB.out _) hb1)
     clear hb1
     go_wp2
     go_ret
     exact ⟨retB HF.out.symm,K1.out⟩
    ·have HN:=Hid.intro (next_true (p:=fun p:Int × Int=>colB p.1 p.2) HA.out hv)
     generalize ps.getD k (0,0)=x at hx0 hx1 hv
     go_wp2_with fail
     refine (implColumnOk _ _ _).mono ?_
     rw [hv]
     rintro e w1 ⟨rfl,hb1⟩
     have K1:=Hid.intro (k_trans (k_alloc HB.out _) hb1)
     clear hb1
     go_wp2
     go_roundw
     case rel=>exact ⟨k+1,by omega,by go_num,HN,K1⟩
     case measure=>simp [intOf];omega
   ·obtain rfl:k=ps.length:=by omega
    have HF:Hid (colsB ps=true):=Hid.intro (by rw [colsB,all_true (0,0) (fun p:Int × Int=>colB p.1 p.2) ps HA.out];simp [h8'])
    go_wp2
    go_ret
    exact ⟨retB HF.out.symm,HB.out⟩

set_option maxRecDepth 100000 in
set_option maxHeartbeats 1000000 in
theorem rowOk_any (u:Value) (r:R) (w:World) {z:Nat} (h:CellsAt w z u r.cells) :
  Calls Try.prog 113 #[.agg #[u,.bool r.whole]] w fun e w'=>e=.returned (.bool (rowB r))∧Below w.heap.size w w':=by
 obtain ⟨a,cap,rfl,hlen⟩:=At.form h
 unfold maxLen at hlen
 have H:=Hid.intro h
 clear h
 by_cases h8:(5:Int) < (r.cells.length:Int)
 ·have HF:Hid (rowB r=false):=Hid.intro (by have:¬ r.cells.length≤5:=by omega
                                            simp [rowB,this])
  go_enter Try.func113,Try.ntmps113
  go_wp2
  go_ret
  exact ⟨retB HF.out.symm,k_alloc (Below.refl _ _) _⟩
 ·have h8':r.cells.length≤5:=by omega
  go_enter Try.func113,Try.ntmps113
  go_wp2_with fail
  go_loopw [4,12] (fun _ i W=>∃ k:Nat,k≤r.cells.length∧i=.int .i64 k∧Hid (∀ j,j < k→cB (r.cells.getD j dC)=true)∧Hid (Below w.heap.size w W)) (fun _ i _=>r.cells.length - (intOf i).toNat)
  case atStart=>exact ⟨0,Nat.zero_le _,rfl,fun j hj=>absurd hj (Nat.not_lt_zero _),k_alloc (Below.refl _ _) _⟩
  case round =>
   obtain ⟨k,hk,rfl,HA,HB⟩:=hrel
   by_cases hlt:k < r.cells.length
   ·obtain ⟨b,off,cap',e',hc1,hc2,hbl,hx,hs⟩:=At.get (H.out.kept HB.out) hlt
    simp only [Value.slice.injEq,true_and] at e'
    obtain ⟨rfl,rfl⟩:=e'
    unfold maxLen at hc2
    have hs':=Hid.intro hs
    cases hv:cB (r.cells.getD k dC)
    ·have HF:Hid (rowB r=false):=Hid.intro (by rw [rowB,all_false dC cB r.cells k hlt hv,Bool.and_false])
     generalize r.cells.getD k dC=x at hx hs' hv
     obtain ⟨x0,x1,x2,x3,x4,x5,x6,x7,x8,x9,x10⟩:=hx
     clear hs
     go_wp2_with fail
     refine (implCellOk _ _ _ _ _ _ _ _ _ _ _ _ hs'.out).mono ?_
     rw [show cellOkB x.s x.c x.r x.a1 x.b1 x.a2 x.b2 x.a3 x.b3 x.a4 x.b4=false from hv]
     rintro e w1 ⟨rfl,hb1⟩
     have K1:=Hid.intro (k_trans (k_alloc HB.out _) hb1)
     clear hb1
     go_wp2
     go_ret
     exact ⟨retB HF.out.symm,K1.out⟩
    ·have HN:=Hid.intro (next_true HA.out hv)
     generalize r.cells.getD k dC=x at hx hs' hv
     obtain ⟨x0,x1,x2,x3,x4,x5,x6,x7,x8,x9,x10⟩:=hx
     clear hs
     go_wp2_with fail
     refine (implCellOk _ _ _ _ _ _ _ _ _ _ _ _ hs'.out).mono ?_
     rw [show cellOkB x.s x.c x.r x.a1 x.b1 x.a2 x.b2 x.a3 x.b3 x.a4 x.b4=true from hv]
     rintro e w1 ⟨rfl,hb1⟩
     have K1:=Hid.intro (k_trans (k_alloc HB.out _) hb1)
     clear hb1
     go_wp2
     go_roundw
     case rel=>exact ⟨k+1,by omega,by go_num,HN,K1⟩
     case measure=>simp [intOf];omega
   ·obtain rfl:k=r.cells.length:=by omega
    have HF:Hid (rowB r=true):=Hid.intro (by rw [rowB,all_true dC cB r.cells HA.out];simp [h8'])
    go_wp2
    go_ret
    exact ⟨retB HF.out.symm,HB.out⟩

set_option maxRecDepth 100000 in
set_option maxHeartbeats 1000000 in
theorem rowsOk_any (v:Value) (rs:List R) (w:World) {z:Nat} (h:RowsAt w z v rs) :
  Calls Try.prog 106 #[v] w fun e w'=>e=.returned (.bool (rs.all rowB))∧Below w.heap.size w w':=by
 obtain ⟨a,cap,rfl,hlen⟩:=At.form h
 unfold maxLen at hlen
 have H:=Hid.intro h
 clear h
 go_enter Try.func106,Try.ntmps106
 go_wp2_with fail
 go_loopw [4,7] (fun _ i W=>∃ k:Nat,k≤rs.length∧i=.int .i64 k∧Hid (∀ j,j < k→rowB (rs.getD j dR)=true)∧Hid (Below w.heap.size w W)) (fun _ i _=>rs.length - (intOf i).toNat)
 case atStart=>exact ⟨0,Nat.zero_le _,rfl,fun j hj=>absurd hj (Nat.not_lt_zero _),Below.refl _ _⟩
 case round =>
  obtain ⟨k,hk,rfl,HA,HB⟩:=hrel
  by_cases hlt:k < rs.length
  ·obtain ⟨b,off,cap',e',hc1,hc2,hbl,u,hx0,hx1,hx⟩:=At.get (H.out.kept HB.out) hlt
   simp only [Value.slice.injEq,true_and] at e'
   obtain ⟨rfl,rfl⟩:=e'
   unfold maxLen at hc2
   obtain ⟨ua,ucap,rfl,_⟩:=At.form hx
   have HX:=Hid.intro hx
   clear hx
   cases hv:rowB (rs.getD k dR)
   ·have HF:Hid (rs.all rowB=false):=Hid.intro (all_false dR rowB rs k hlt hv)
    generalize rs.getD k dR=x at hx0 hx1 hv HX
    go_wp2_with fail
    refine (rowOk_any _ x _ (HX.out.kept (k_alloc (Below.refl _ _) _))).mono ?_
    rw [hv]
    rintro e w1 ⟨rfl,hb1⟩
    have K1:=Hid.intro (k_trans (k_alloc HB.out _) hb1)
    clear hb1
    go_wp2
    go_ret
    exact ⟨retB HF.out.symm,K1.out⟩
   ·have HN:=Hid.intro (next_true HA.out hv)
    generalize rs.getD k dR=x at hx0 hx1 hv HX
    go_wp2_with fail
    refine (rowOk_any _ x _ (HX.out.kept (k_alloc (Below.refl _ _) _))).mono ?_
    rw [hv]
    rintro e w1 ⟨rfl,hb1⟩
    have K1:=Hid.intro (k_trans (k_alloc HB.out _) hb1)
    clear hb1
    go_wp2
    go_roundw
    case rel=>exact ⟨k+1,by omega,by go_num,HN,K1⟩
    case measure=>simp [intOf];omega
  ·obtain rfl:k=rs.length:=by omega
   have HF:Hid (rs.all rowB=true):=Hid.intro (all_true dR rowB rs HA.out)
   go_wp2
   go_ret
   exact ⟨retB HF.out.symm,HB.out⟩

set_option maxRecDepth 100000 in
set_option maxHeartbeats 1000000 in
theorem partsOk_any (vc:Value) (ar:Option Addr) (n cr:Nat) (hd ft gp:Int) (a:Option Addr) (m c:Nat) (hvc:vc=.slice a m c) (hn:n≤4611686018427387903) (w:World) :
  Calls Try.prog 104 #[.agg #[vc,.int .i64 hd,.int .i64 ft,.slice ar n cr,.int .i64 gp]] w fun e w'=>e=.returned (.bool (partsB n hd ft))∧Below w.heap.size w w':=by
 subst hvc
 cases h1:inB hd 0 n
 ·have HF:Hid (partsB n hd ft=false):=Hid.intro (by rw [partsB,h1];rfl)
  go_enter Try.func104,Try.ntmps104
  go_wp2_with (go_at_call 55;refine (within_any _ _ _ _).mono ?_;rintro e w' ⟨rfl,rfl⟩)
  go_ret
  exact ⟨retB HF.out.symm,k_alloc (Below.refl _ _) _⟩
 ·have h1':0≤hd∧hd≤n:=of_decide_eq_true h1
  obtain ⟨g1,g2⟩:=h1'
  have HF:Hid (partsB n hd ft=inB ft 0 (n - hd)):=Hid.intro (by rw [partsB,h1];rfl)
  go_enter Try.func104,Try.ntmps104
  go_wp2_with (go_at_call 55;refine (within_any _ _ _ _).mono ?_;rintro e w' ⟨rfl,rfl⟩)
  go_ret
  exact ⟨retB HF.out.symm,k_alloc (Below.refl _ _) _⟩
end Go.Proofs.Ytggmjiddadjilao
