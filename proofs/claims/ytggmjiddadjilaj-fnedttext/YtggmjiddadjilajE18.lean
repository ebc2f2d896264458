/-
  PROVED HERE: the grid of a drawn table, and that its cells are few and small where the table is ok. Also: what the program's BrdOk answers at every border. Also: what the program's CellOk answers at every cell whose text is a Go string. Also: what the program's columnOk answers at every column. Also: what the program's columnsOk, rowOk, rowsOk and partsOk answer at a table that lies in memory; nothing that was in memory is turned. Also: what the program's TblOk answers at a table that lies in memory: one Bool; nothing that was in memory is turned. Also: small facts for the model's l3Of: what stays of a table and a grid of the call's own; what holds between two operations of its first statement. Also: what the model's l3Of answers at a drawn table that is ok: its cells at their places; nothing that was in memory is turned.
-/
import Derived.Test.YtggmjiddadjilajE8
import Derived.Test.YtggmjiddadjilajE17
import Derived.Test.YtggmjiddadjilajE6
import Derived.Test.YtggmjiddadjilajE7
import Derived.Test.YtggmjiddadjilajE13
import Derived.Deep.LoopGhost
import Derived.Deep.DeepCutAuto
namespace Go.Proofs.Ytggmjiddadjilaj
open Go.RowKit

/-- the grid of a drawn table -/
def gOf (t:T):G:=if tblB t=true then ⟨t.rows.length,colsOf (max 1 (t.cols.length:Int)) (gridOf t),gridOf t⟩ else ⟨0,0,[]⟩
theorem low_of {t:T} (h:tblB t=true) (hD:Drawn t):Low t:=by
 have hb:=tblB_bounds h
 have h2:=h
 simp only [tblB,partsB,inB,Bool.and_eq_true,decide_eq_true_eq,List.all_eq_true,rowB,cB,cellOkB] at h2
 refine ⟨hb.1.2,fun r hr x hx=>?_,hD.few,⟨hb.2.1.1,hb.2.1.2⟩,⟨hb.2.2.1,by omega⟩⟩
 have h3:=(h2.2.2.2.2 r hr).2 x hx
 have h4:=hD.cells r hr x hx
 exact ⟨by omega,by have:=h4.2;omega,by have:=h4.2;omega⟩
end Go.Proofs.Ytggmjiddadjilaj
namespace Go.Proofs.Ytggmjiddadjilaj
open Go.RowKit

set_option maxRecDepth 100000 in
set_option maxHeartbeats 400000 in
theorem implBrdOk (a b:Int) (w:World) :
  Calls Try.prog 80 #[.agg #[.int .i64 a,.int .i64 b]] w fun e w'=>e=.returned (.bool (brdOkB a b))∧w'=w.alloc (.cells #[.int .i64 a,.int .i64 b] 39):=by
 by_cases h0:a=0
 ·subst h0
  go_enter Try.func80,Try.ntmps80
  go_wp2
  go_ret
  exact ⟨retB (brd_zero b).symm,rfl⟩
 by_cases h4:a=4
 ·subst h4
  go_enter Try.func80,Try.ntmps80
  go_wp2
  go_ret
  exact ⟨retB (brd_four b).symm,rfl⟩
 by_cases h1:a=1
 ·subst h1
  go_enter Try.func80,Try.ntmps80
  go_wp2_with (go_at_call 36;refine (within_any _ _ _ _).mono ?_;rintro e w' ⟨rfl,rfl⟩)
  go_ret
  exact ⟨retB (brd_seen b (by omega) (by omega)).symm,rfl⟩
 by_cases h2:a=2
 ·subst h2
  go_enter Try.func80,Try.ntmps80
  go_wp2_with (go_at_call 36;refine (within_any _ _ _ _).mono ?_;rintro e w' ⟨rfl,rfl⟩)
  go_ret
  exact ⟨retB (brd_seen b (by omega) (by omega)).symm,rfl⟩
 by_cases h3:a=3
 ·subst h3
  go_enter Try.func80,Try.ntmps80
  go_wp2_with (go_at_call 36;refine (within_any _ _ _ _).mono ?_;rintro e w' ⟨rfl,rfl⟩)
  go_ret
  exact ⟨retB (brd_seen b (by omega) (by omega)).symm,rfl⟩
 have e0:(a == 0)=false:=beq_eq_false_iff_ne.2 h0
 have e1:(a == 1)=false:=beq_eq_false_iff_ne.2 h1
 have e2:(a == 2)=false:=beq_eq_false_iff_ne.2 h2
 have e3:(a == 3)=false:=beq_eq_false_iff_ne.2 h3
 have e4:(a == 4)=false:=beq_eq_false_iff_ne.2 h4
 have HB:Hid (brdOkB a b=false):=brd_other b h0 h4 (by omega)
 clear h0 h1 h2 h3 h4
 go_enter Try.func80,Try.ntmps80
 go_wp2
 go_ret
 exact ⟨retB HB.out.symm,rfl⟩
end Go.Proofs.Ytggmjiddadjilaj
namespace Go.Proofs.Ytggmjiddadjilaj
open Go.RowKit

set_option maxRecDepth 100000 in
set_option maxHeartbeats 1000000 in
theorem implCellOk (s:ByteArray) (c r a1 b1 a2 b2 a3 b3 a4 b4:Int) (w:World) (hs:s.size≤maxLen) :
  Calls Try.prog 48 #[.agg #[.string s,.int .i64 c,.int .i64 r,.int .i64 a1,.int .i64 b1,.int .i64 a2,.int .i64 b2,.int .i64 a3,.int .i64 b3,.int .i64 a4,.int .i64 b4]] w fun e w'=>e=.returned (.bool (cellOkB s c r a1 b1 a2 b2 a3 b3 a4 b4))∧Below w.heap.size w w':=by
 cases h0:txtOkB s
 ·
  as_aux_lemma =>
   have HB:Hid (cellOkB s c r a1 b1 a2 b2 a3 b3 a4 b4=false):=Hid.mk (by simp [cellOkB,h0])
   go_enter Try.func48,Try.ntmps48
   go_wp2_with (first | (go_at_call 43;refine (implTxtOk _ _ hs).mono ?_;rintro e w' ⟨rfl,rfl⟩) | (go_at_call 36;refine (within_any _ _ _ _).mono ?_;rintro e w' ⟨rfl,rfl⟩) | (go_at_call 80;refine (implBrdOk _ _ _).mono ?_;rintro e w' ⟨rfl,rfl⟩))
   go_ret
   exact ⟨retB HB.out.symm,by repeat (first | exact Below.refl _ _ | apply k_alloc)⟩
 cases h1:inB c 1 4
 ·
  as_aux_lemma =>
   have HB:Hid (cellOkB s c r a1 b1 a2 b2 a3 b3 a4 b4=false):=Hid.mk (by simp [cellOkB,h0,h1])
   go_enter Try.func48,Try.ntmps48
   go_wp2_with (first | (go_at_call 43;refine (implTxtOk _ _ hs).mono ?_;rintro e w' ⟨rfl,rfl⟩) | (go_at_call 36;refine (within_any _ _ _ _).mono ?_;rintro e w' ⟨rfl,rfl⟩) | (go_at_call 80;refine (implBrdOk _ _ _).mono ?_;rintro e w' ⟨rfl,rfl⟩))
   go_ret
   exact ⟨retB HB.out.symm,by repeat (first | exact Below.refl _ _ | apply k_alloc)⟩
 cases h2:inB r 1 4
 ·
  as_aux_lemma =>
   have HB:Hid (cellOkB s c r a1 b1 a2 b2 a3 b3 a4 b4=false):=Hid.mk (by simp [cellOkB,h0,h1,h2])
   go_enter Try.func48,Try.ntmps48
   go_wp2_with (first | (go_at_call 43;refine (implTxtOk _ _ hs).mono ?_;rintro e w' ⟨rfl,rfl⟩) | (go_at_call 36;refine (within_any _ _ _ _).mono ?_;rintro e w' ⟨rfl,rfl⟩) | (go_at_call 80;refine (implBrdOk _ _ _).mono ?_;rintro e w' ⟨rfl,rfl⟩))
   go_ret
   exact ⟨retB HB.out.symm,by repeat (first | exact Below.refl _ _ | apply k_alloc)⟩
 cases h3:brdOkB a1 b1
 ·
  as_aux_lemma =>
   have HB:Hid (cellOkB s c r a1 b1 a2 b2 a3 b3 a4 b4=false):=Hid.mk (by simp [cellOkB,h0,h1,h2,h3])
   go_enter Try.func48,Try.ntmps48
   go_wp2_with (first | (go_at_call 43;refine (implTxtOk _ _ hs).mono ?_;rintro e w' ⟨rfl,rfl⟩) | (go_at_call 36;refine (within_any _ _ _ _).mono ?_;rintro e w' ⟨rfl,rfl⟩) | (go_at_call 80;refine (implBrdOk _ _ _).mono ?_;rintro e w' ⟨rfl,rfl⟩))
   go_ret
   exact ⟨retB HB.out.symm,by repeat (first | exact Below.refl _ _ | apply k_alloc)⟩
 cases h4:brdOkB a2 b2
 ·
  as_aux_lemma =>
   have HB:Hid (cellOkB s c r a1 b1 a2 b2 a3 b3 a4 b4=false):=Hid.mk (by simp [cellOkB,h0,h1,h2,h3,h4])
   go_enter Try.func48,Try.ntmps48
   go_wp2_with (first | (go_at_call 43;refine (implTxtOk _ _ hs).mono ?_;rintro e w' ⟨rfl,rfl⟩) | (go_at_call 36;refine (within_any _ _ _ _).mono ?_;rintro e w' ⟨rfl,rfl⟩) | (go_at_call 80;refine (implBrdOk _ _ _).mono ?_;rintro e w' ⟨rfl,rfl⟩))
   go_ret
   exact ⟨retB HB.out.symm,by repeat (first | exact Below.refl _ _ | apply k_alloc)⟩
 cases h5:brdOkB a3 b3
 ·
  as_aux_lemma =>
   have HB:Hid (cellOkB s c r a1 b1 a2 b2 a3 b3 a4 b4=false):=Hid.mk (by simp [cellOkB,h0,h1,h2,h3,h4,h5])
   go_enter Try.func48,Try.ntmps48
   go_wp2_with (first | (go_at_call 43;refine (implTxtOk _ _ hs).mono ?_;rintro e w' ⟨rfl,rfl⟩) | (go_at_call 36;refine (within_any _ _ _ _).mono ?_;rintro e w' ⟨rfl,rfl⟩) | (go_at_call 80;refine (implBrdOk _ _ _).mono ?_;rintro e w' ⟨rfl,rfl⟩))
   go_ret
   exact ⟨retB HB.out.symm,by repeat (first | exact Below.refl _ _ | apply k_alloc)⟩
 as_aux_lemma =>
  have HB:Hid (cellOkB s c r a1 b1 a2 b2 a3 b3 a4 b4=brdOkB a4 b4):=Hid.mk (by simp [cellOkB,h0,h1,h2,h3,h4,h5])
  go_enter Try.func48,Try.ntmps48
  go_wp2_with (first | (go_at_call 43;refine (implTxtOk _ _ hs).mono ?_;rintro e w' ⟨rfl,rfl⟩) | (go_at_call 36;refine (within_any _ _ _ _).mono ?_;rintro e w' ⟨rfl,rfl⟩) | (go_at_call 80;refine (implBrdOk _ _ _).mono ?_;rintro e w' ⟨rfl,rfl⟩))
  go_ret
  exact ⟨retB HB.out.symm,by repeat (first | exact Below.refl _ _ | apply k_alloc)⟩
end Go.Proofs.Ytggmjiddadjilaj
namespace Go.Proofs.Ytggmjiddadjilaj
open Go.RowKit

theorem ta_auto_fixed (n:Int) (w:World):(Instr.typeAssert (.iface 132 (.agg #[.int .i64 n])) 123 134 true).run Try.prog w=.ok (.tuple #[.agg #[.int .i64 0],.bool false]) w:=by kernel_rfl
theorem ta_auto_part (n:Int) (w:World):(Instr.typeAssert (.iface 132 (.agg #[.int .i64 n])) 123 136 true).run Try.prog w=.ok (.tuple #[.agg #[.int .i64 0],.bool false]) w:=by kernel_rfl
theorem ta_fixed_fixed (n:Int) (w:World):(Instr.typeAssert (.iface 134 (.agg #[.int .i64 n])) 123 134 true).run Try.prog w=.ok (.tuple #[.agg #[.int .i64 n],.bool true]) w:=by kernel_rfl
theorem ta_part_fixed (n:Int) (w:World):(Instr.typeAssert (.iface 136 (.agg #[.int .i64 n])) 123 134 true).run Try.prog w=.ok (.tuple #[.agg #[.int .i64 0],.bool false]) w:=by kernel_rfl
theorem ta_part_part (n:Int) (w:World):(Instr.typeAssert (.iface 136 (.agg #[.int .i64 n])) 123 136 true).run Try.prog w=.ok (.tuple #[.agg #[.int .i64 n],.bool true]) w:=by kernel_rfl
theorem me_auto (n : Int) (w : World) : (method 253 132 (.agg #[.int .i64 n]) "loop.example/panework/impl.number").run Try.prog w = .ok (114, .agg #[.int .i64 n]) w := by kernel_rfl
theorem me_fixed (n : Int) (w : World) : (method 253 134 (.agg #[.int .i64 n]) "loop.example/panework/impl.number").run Try.prog w = .ok (115, .agg #[.int .i64 n]) w := by kernel_rfl
theorem me_part (n : Int) (w : World) : (method 253 136 (.agg #[.int .i64 n]) "loop.example/panework/impl.number").run Try.prog w = .ok (116, .agg #[.int .i64 n]) w := by kernel_rfl

set_option maxRecDepth 100000 in
set_option maxHeartbeats 1000000 in
theorem implColumnOk (k n:Int) (w:World) :
  Calls Try.prog 84 #[.agg #[.int .i64 k,.int .i64 n]] w fun e w'=>e=.returned (.bool (colB k n))∧Below w.heap.size w w':=by
 by_cases h0:k=0
 ·subst h0
  have t1:=fun w=>ta_auto_fixed n w
  have t2:=fun w=>ta_auto_part n w
  have t3:=fun w=>me_auto n w
  have HC:=Hid.intro (colB_0 n)
  go_enter Try.func84,Try.ntmps84
  go_wp2_with (first | (go_at_call 36;refine (within_any _ _ _ _).mono ?_;rintro e w' ⟨rfl,rfl⟩) | go_in)
  go_ret
  exact ⟨retB HC.out.symm,by repeat (first | refine k_alloc ?_ _ | exact Below.refl _ _)⟩
 by_cases h1:k=1
 ·subst h1
  have t1:=fun w=>ta_fixed_fixed n w
  have t3:=fun w=>me_fixed n w
  have HC:=Hid.intro (colB_1 n)
  go_enter Try.func84,Try.ntmps84
  go_wp2_with (first | (go_at_call 36;refine (within_any _ _ _ _).mono ?_;rintro e w' ⟨rfl,rfl⟩) | go_in)
  go_ret
  exact ⟨retB HC.out.symm,by repeat (first | refine k_alloc ?_ _ | exact Below.refl _ _)⟩
 by_cases h2:k=2
 ·subst h2
  have t1:=fun w=>ta_part_fixed n w
  have t2:=fun w=>ta_part_part n w
  have t3:=fun w=>me_part n w
  have HC:=Hid.intro (colB_2 n)
  go_enter Try.func84,Try.ntmps84
  go_wp2_with (first | (go_at_call 36;refine (within_any _ _ _ _).mono ?_;rintro e w' ⟨rfl,rfl⟩) | go_in)
  go_ret
  exact ⟨retB HC.out.symm,by repeat (first | refine k_alloc ?_ _ | exact Below.refl _ _)⟩
 have e0:(k == 0)=false:=beq_eq_false_iff_ne.2 h0
 have e1:(k == 1)=false:=beq_eq_false_iff_ne.2 h1
 have e2:(k == 2)=false:=beq_eq_false_iff_ne.2 h2
 have HC:=Hid.intro (colB_no n h0 h1 h2)
 clear h0 h1 h2
 go_enter Try.func84,Try.ntmps84
 go_wp2
 go_ret
 exact ⟨retB HC.out.symm,by repeat (first | refine k_alloc ?_ _ | exact Below.refl _ _)⟩
end Go.Proofs.Ytggmjiddadjilaj
namespace Go.Proofs.Ytggmjiddadjilaj
open Go.RowKit

set_option maxRecDepth 100000 in
set_option maxHeartbeats 1000000 in
theorem columnsOk_any (v:Value) (ps:List (Int × Int)) (w:World) {z:Nat} (h:ColsAt w z v ps) :
  Calls Try.prog 60 #[v] w fun e w'=>e=.returned (.bool (colsB ps))∧Below w.heap.size w w':=by
 obtain ⟨a,cap,rfl,hlen⟩:=At.form h
 unfold maxLen at hlen
 have H:=Hid.intro h
 clear h
 by_cases h8:(8:Int) < (ps.length:Int)
 ·have HF:Hid (colsB ps=false):=Hid.intro (by have:¬ ps.length≤8:=by omega
                                              simp [colsB,this])
  go_enter Try.func60,Try.ntmps60
  go_wp2
  go_ret
  exact ⟨retB HF.out.symm,Below.refl _ _⟩
 ·have h8':ps.length≤8:=by omega
  go_enter Try.func60,Try.ntmps60
  go_wp2_with fail
  go_loopw [4,10] (fun _ i W=>∃ k:Nat,k≤ps.length∧i=.int .i64 k∧Hid (∀ j,j < k→(fun p:Int × Int=>colB p.1 p.2) (ps.getD j (0,0))=true)∧Hid (Below w.heap.size w W)) (fun _ i _=>ps.length - (intOf i).toNat)
  case atStart=>exact ⟨0,Nat.zero_le _,rfl,fun j hj=>absurd hj (Nat.not_lt_zero _),Below.refl _ _⟩
  case round =>
   obtain ⟨k,hk,rfl,HA,HB⟩:=hrel
   by_cases hlt:k < ps.length
   ·obtain ⟨b,off,cap',e',hc1,hc2,hbl,hx0,hx1⟩:=At.get (H.out.kept HB.out) hlt
    simp only [Value.slice.injEq,true_and] at e'
    obtain ⟨rfl,rfl⟩:=e'
    unfold maxLen at hc2
    cases hv:colB (ps.getD k (0,0)).1 (ps.getD k (0,0)).2
    ·have HF:Hid (colsB ps=false):=Hid.intro (by rw [colsB,all_false (0,0) (fun p:Int × Int=>colB p.1 p.2) ps k hlt hv,Bool.and_false])
     generalize ps.getD k (0,0)=x at hx0 hx1 hv
     go_wp2_with fail
     refine (implColumnOk _ _ _).mono ?_
     rw [hv]
     rintro e w1 ⟨rfl,hb1⟩
     have K1:=Hid.intro (k_trans (k_alloc HB.out _) hb1)
     clear hb1
     go_wp2
     go_ret
     exact ⟨retB HF.out.symm,K1.out⟩
    ·have HN:=Hid.intro (next_true (p:=fun p:Int × Int=>colB p.1 p.2) HA.out hv)
     generalize ps.getD k (0,0)=x at hx0 hx1 hv
     go_wp2_with fail
     refine (implColumnOk _ _ _).mono ?_
     rw [hv]
     rintro e w1 ⟨rfl,hb1⟩
     have K1:=Hid.intro (k_trans (k_alloc HB.out _) hb1)
     clear hb1
     go_wp2
     go_roundw
     case rel=>exact ⟨k+1,by omega,by go_num,HN,K1⟩
     case measure=>simp [intOf];omega
   ·obtain rfl:k=ps.length:=by omega
    have HF:Hid (colsB ps=true):=Hid.intro (by rw [colsB,all_true (0,0) (fun p:Int × Int=>colB p.1 p.2) ps HA.out];simp [h8'])
    go_wp2
    go_ret
    exact ⟨retB HF.out.symm,HB.out⟩

set_option maxRecDepth 100000 in
set_option maxHeartbeats 1000000 in
theorem rowOk_any (u:Value) (r:R) (w:World) {z:Nat} (h:CellsAt w z u r.cells) :
  Calls Try.prog 85 #[.agg #[u,.bool r.whole]] w fun e w'=>e=.returned (.bool (rowB r))∧Below w.heap.size w w':=by
 obtain ⟨a,cap,rfl,hlen⟩:=At.form h
 unfold maxLen at hlen
 have H:=Hid.intro h
 clear h
 by_cases h8:(5:Int) < (r.cells.length:Int)
 ·have HF:Hid (rowB r=false):=Hid.intro (by have:¬ r.cells.length≤5:=by omega
                                            simp [rowB,this])
  go_enter Try.func85,Try.ntmps85
  go_wp2
  go_ret
  exact ⟨retB HF.out.symm,k_alloc (Below.refl _ _) _⟩
 ·have h8':r.cells.length≤5:=by omega
  go_enter Try.func85,Try.ntmps85
  go_wp2_with fail
  go_loopw [4,12] (fun _ i W=>∃ k:Nat,k≤r.cells.length∧i=.int .i64 k∧Hid (∀ j,j < k→cB (r.cells.getD j dC)=true)∧Hid (Below w.heap.size w W)) (fun _ i _=>r.cells.length - (intOf i).toNat)
  case atStart=>exact ⟨0,Nat.zero_le _,rfl,fun j hj=>absurd hj (Nat.not_lt_zero _),k_alloc (Below.refl _ _) _⟩
  case round =>
   obtain ⟨k,hk,rfl,HA,HB⟩:=hrel
   by_cases hlt:k < r.cells.length
   ·obtain ⟨b,off,cap',e',hc1,hc2,hbl,hx,hs⟩:=At.get (H.out.kept HB.out) hlt
    simp only [Value.slice.injEq,true_and] at e'
    obtain ⟨rfl,rfl⟩:=e'
    unfold maxLen at hc2
    have hs':=Hid.intro hs
    cases hv:cB (r.cells.getD k dC)
    ·have HF:Hid (rowB r=false):=Hid.intro (by rw [rowB,all_false dC cB r.cells k hlt hv,Bool.and_false])
     generalize r.cells.getD k dC=x at hx hs' hv
     obtain ⟨x0,x1,x2,x3,x4,x5,x6,x7,x8,x9,x10⟩:=hx
     clear hs
     go_wp2_with fail
     refine (implCellOk _ _ _ _ _ _ _ _ _ _ _ _ hs'.out).mono ?_
     rw [show cellOkB x.s x.c x.r x.a1 x.b1 x.a2 x.b2 x.a3 x.b3 x.a4 x.b4=false from hv]
     rintro e w1 ⟨rfl,hb1⟩
     have K1:=Hid.intro (k_trans (k_alloc HB.out _) hb1)
     clear hb1
     go_wp2
     go_ret
     exact ⟨retB HF.out.symm,K1.out⟩
    ·have HN:=Hid.intro (next_true HA.out hv)
     generalize r.cells.getD k dC=x at hx hs' hv
     obtain ⟨x0,x1,x2,x3,x4,x5,x6,x7,x8,x9,x10⟩:=hx
     clear hs
     go_wp2_with fail
     refine (implCellOk _ _ _ _ _ _ _ _ _ _ _ _ hs'.out).mono ?_
     rw [show cellOkB x.s x.c x.r x.a1 x.b1 x.a2 x.b2 x.a3 x.b3 x.a4 x.b4=true from hv]
     rintro e w1 ⟨rfl,hb1⟩
     have K1:=Hid.intro (k_trans (k_alloc HB.out _) hb1)
     clear hb1
     go_wp2
     go_roundw
     case rel=>exact ⟨k+1,by omega,by go_num,HN,K1⟩
     case measure=>simp [intOf];omega
   ·obtain rfl:k=r.cells.length:=by omega
    have HF:Hid (rowB r=true):=Hid.intro (by rw [rowB,all_true dC cB r.cells HA.out];simp [h8'])
    go_wp2
    go_ret
    exact ⟨retB HF.out.symm,HB.out⟩

set_option maxRecDepth 100000 in
set_option maxHeartbeats 1000000 in
theorem rowsOk_any (v:Value) (rs:List R) (w:World) {z:Nat} (h:RowsAt w z v rs) :
  Calls Try.prog 61 #[v] w fun e w'=>e=.returned (.bool (rs.all rowB))∧Below w.heap.size w w':=by
 obtain ⟨a,cap,rfl,hlen⟩:=At.form h
 unfold maxLen at hlen
 have H:=Hid.intro h
 clear h
 go_enter Try.func61,Try.ntmps61
 go_wp2_with fail
 go_loopw [4,7] (fun _ i W=>∃ k:Nat,k≤rs.length∧i=.int .i64 k∧Hid (∀ j,j < k→rowB (rs.getD j dR)=true)∧Hid (Below w.heap.size w W)) (fun _ i _=>rs.length - (intOf i).toNat)
 case atStart=>exact ⟨0,Nat.zero_le _,rfl,fun j hj=>absurd hj (Nat.not_lt_zero _),Below.refl _ _⟩
 case round =>
  obtain ⟨k,hk,rfl,HA,HB⟩:=hrel
  by_cases hlt:k < rs.length
  ·obtain ⟨b,off,cap',e',hc1,hc2,hbl,u,hx0,hx1,hx⟩:=At.get (H.out.kept HB.out) hlt
   simp only [Value.slice.injEq,true_and] at e'
   obtain ⟨rfl,rfl⟩:=e'
   unfold maxLen at hc2
   obtain ⟨ua,ucap,rfl,_⟩:=At.form hx
   have HX:=Hid.intro hx
   clear hx
   cases hv:rowB (rs.getD k dR)
   ·have HF:Hid (rs.all rowB=false):=Hid.intro (all_false dR rowB rs k hlt hv)
    generalize rs.getD k dR=x at hx0 hx1 hv HX
    go_wp2_with fail
    refine (rowOk_any _ x _ (HX.out.kept (k_alloc (Below.refl _ _) _))).mono ?_
    rw [hv]
    rintro e w1 ⟨rfl,hb1⟩
    have K1:=Hid.intro (k_trans (k_alloc HB.out _) hb1)
    clear hb1
    go_wp2
    go_ret
    exact ⟨retB HF.out.symm,K1.out⟩
   ·have HN:=Hid.intro (next_true HA.out hv)
    generalize rs.getD k dR=x at hx0 hx1 hv HX
    go_wp2_with fail
    refine (rowOk_any _ x _ (HX.out.kept (k_alloc (Below.refl _ _) _))).mono ?_
    rw [hv]
    rintro e w1 ⟨rfl,hb1⟩
    have K1:=Hid.intro (k_trans (k_alloc HB.out _) hb1)
    clear hb1
    go_wp2
    go_roundw
    case rel=>exact ⟨k+1,by omega,by go_num,HN,K1⟩
    case measure=>simp [intOf];omega
  ·obtain rfl:k=rs.length:=by omega
   have HF:Hid (rs.all rowB=true):=Hid.intro (all_true dR rowB rs HA.out)
   go_wp2
   go_ret
   exact ⟨retB HF.out.symm,HB.out⟩

set_option maxRecDepth 100000 in
set_option maxHeartbeats 1000000 in
theorem partsOk_any (vc:Value) (ar:Option Addr) (n cr:Nat) (hd ft gp:Int) (a:Option Addr) (m c:Nat) (hvc:vc=.slice a m c) (hn:n≤4611686018427387903) (w:World) :
  Calls Try.prog 59 #[.agg #[vc,.int .i64 hd,.int .i64 ft,.slice ar n cr,.int .i64 gp]] w fun e w'=>e=.returned (.bool (partsB n hd ft))∧Below w.heap.size w w':=by
 subst hvc
 cases h1:inB hd 0 n
 ·have HF:Hid (partsB n hd ft=false):=Hid.intro (by rw [partsB,h1];rfl)
  go_enter Try.func59,Try.ntmps59
  go_wp2_with (go_at_call 36;refine (within_any _ _ _ _).mono ?_;rintro e w' ⟨rfl,rfl⟩)
  go_ret
  exact ⟨retB HF.out.symm,k_alloc (Below.refl _ _) _⟩
 ·have h1':0≤hd∧hd≤n:=of_decide_eq_true h1
  obtain ⟨g1,g2⟩:=h1'
  have HF:Hid (partsB n hd ft=inB ft 0 (n - hd)):=Hid.intro (by rw [partsB,h1];rfl)
  go_enter Try.func59,Try.ntmps59
  go_wp2_with (go_at_call 36;refine (within_any _ _ _ _).mono ?_;rintro e w' ⟨rfl,rfl⟩)
  go_ret
  exact ⟨retB HF.out.symm,k_alloc (Below.refl _ _) _⟩
end Go.Proofs.Ytggmjiddadjilaj
namespace Go.Proofs.Ytggmjiddadjilaj
open Go.RowKit

set_option maxRecDepth 100000 in
set_option maxHeartbeats 2000000 in
theorem implTblOk (ac ar:Option Addr) (cc cr:Nat) (t:T) (w:World) {z:Nat} (hc:ColsAt w z (.slice ac t.cols.length cc) t.cols) (hr:RowsAt w z (.slice ar t.rows.length cr) t.rows) :
  Calls Try.prog 19 #[.agg #[.slice ac t.cols.length cc,.int .i64 t.head,.int .i64 t.foot,.slice ar t.rows.length cr,.int .i64 t.gap]] w fun e w'=>e=.returned (.bool (tblB t))∧Below w.heap.size w w':=by
 have HC:=Hid.intro hc
 have HR:=Hid.intro hr
 clear hc hr
 have K0:=Hid.intro (k_alloc (Below.refl w.heap.size w) (.cells #[.slice ac t.cols.length cc,.int .i64 t.head,.int .i64 t.foot,.slice ar t.rows.length cr,.int .i64 t.gap] 37))
 cases h0:inB t.rows.length 1 8
 ·skip
  have HF:Hid (tblB t=false):=Hid.intro (by simp [tblB,h0])
  go_enter Try.func19,Try.ntmps19
  go_wp2_with (go_at_call 36;refine (within_any _ _ _ _).mono ?_;rintro e w' ⟨rfl,rfl⟩)
  go_ret
  exact ⟨retB HF.out.symm,k_alloc (Below.refl _ _) _⟩
 cases h1:partsB t.rows.length t.head t.foot
 ·skip
  have HF:Hid (tblB t=false):=Hid.intro (by simp [tblB,h0,h1])
  have hN:0≤((t.rows.length:Nat):Int) - 1∧((t.rows.length:Nat):Int)≤8:=by have:=of_decide_eq_true h0;omega
  go_enter Try.func19,Try.ntmps19
  go_wp2_with (go_at_call 36;refine (within_any _ _ _ _).mono ?_;rintro e w' ⟨rfl,rfl⟩)
  refine (partsOk_any _ ar t.rows.length cr t.head t.foot t.gap ac t.cols.length cc rfl (by omega) _).mono ?_
  rw [h1]
  rintro e w1 ⟨rfl,hb1⟩
  obtain ⟨m0,m1,m2,m3,m4⟩:=fiveO ((hb1.block w.heap.size (by simp)).trans (newestO _ _))
  have K1:=Hid.intro (k_trans K0.out hb1)
  have L1:=Hid.intro hb1
  clear hb1
  go_wp2_with (go_at_call 36;refine (within_any _ _ _ _).mono ?_;rintro e w' ⟨rfl,rfl⟩)
  go_ret
  exact ⟨retB HF.out.symm,K1.out⟩
 cases h2:inB t.gap 0 3
 ·skip
  have HF:Hid (tblB t=false):=Hid.intro (by simp [tblB,h0,h1,h2])
  have hN:0≤((t.rows.length:Nat):Int) - 1∧((t.rows.length:Nat):Int)≤8:=by have:=of_decide_eq_true h0;omega
  go_enter Try.func19,Try.ntmps19
  go_wp2_with (go_at_call 36;refine (within_any _ _ _ _).mono ?_;rintro e w' ⟨rfl,rfl⟩)
  refine (partsOk_any _ ar t.rows.length cr t.head t.foot t.gap ac t.cols.length cc rfl (by omega) _).mono ?_
  rw [h1]
  rintro e w1 ⟨rfl,hb1⟩
  obtain ⟨m0,m1,m2,m3,m4⟩:=fiveO ((hb1.block w.heap.size (by simp)).trans (newestO _ _))
  have K1:=Hid.intro (k_trans K0.out hb1)
  have L1:=Hid.intro hb1
  clear hb1
  go_wp2_with (go_at_call 36;refine (within_any _ _ _ _).mono ?_;rintro e w' ⟨rfl,rfl⟩)
  go_ret
  exact ⟨retB HF.out.symm,K1.out⟩
 cases h3:colsB t.cols
 ·skip
  have HF:Hid (tblB t=false):=Hid.intro (by simp [tblB,h0,h1,h2,h3])
  have hN:0≤((t.rows.length:Nat):Int) - 1∧((t.rows.length:Nat):Int)≤8:=by have:=of_decide_eq_true h0;omega
  go_enter Try.func19,Try.ntmps19
  go_wp2_with (go_at_call 36;refine (within_any _ _ _ _).mono ?_;rintro e w' ⟨rfl,rfl⟩)
  refine (partsOk_any _ ar t.rows.length cr t.head t.foot t.gap ac t.cols.length cc rfl (by omega) _).mono ?_
  rw [h1]
  rintro e w1 ⟨rfl,hb1⟩
  obtain ⟨m0,m1,m2,m3,m4⟩:=fiveO ((hb1.block w.heap.size (by simp)).trans (newestO _ _))
  have K1:=Hid.intro (k_trans K0.out hb1)
  have L1:=Hid.intro hb1
  clear hb1
  go_wp2_with (go_at_call 36;refine (within_any _ _ _ _).mono ?_;rintro e w' ⟨rfl,rfl⟩)
  refine (columnsOk_any _ t.cols _ (HC.out.kept K1.out)).mono ?_
  rw [h3]
  rintro e w2 ⟨rfl,hb2⟩
  obtain ⟨n0,n1,n2,n3,n4⟩:=fiveO (((k_trans L1.out hb2).block w.heap.size (by simp)).trans (newestO _ _))
  have K2:=Hid.intro (k_trans K1.out hb2)
  clear hb2
  go_wp2
  go_ret
  exact ⟨retB HF.out.symm,K2.out⟩
 have HF:Hid (tblB t=t.rows.all rowB):=Hid.intro (by simp [tblB,h0,h1,h2,h3])
 have hN:0≤((t.rows.length:Nat):Int) - 1∧((t.rows.length:Nat):Int)≤8:=by have:=of_decide_eq_true h0;omega
 go_enter Try.func19,Try.ntmps19
 go_wp2_with (go_at_call 36;refine (within_any _ _ _ _).mono ?_;rintro e w' ⟨rfl,rfl⟩)
 refine (partsOk_any _ ar t.rows.length cr t.head t.foot t.gap ac t.cols.length cc rfl (by omega) _).mono ?_
 rw [h1]
 rintro e w1 ⟨rfl,hb1⟩
 obtain ⟨m0,m1,m2,m3,m4⟩:=fiveO ((hb1.block w.heap.size (by simp)).trans (newestO _ _))
 have K1:=Hid.intro (k_trans K0.out hb1)
 have L1:=Hid.intro hb1
 clear hb1
 go_wp2_with (go_at_call 36;refine (within_any _ _ _ _).mono ?_;rintro e w' ⟨rfl,rfl⟩)
 refine (columnsOk_any _ t.cols _ (HC.out.kept K1.out)).mono ?_
 rw [h3]
 rintro e w2 ⟨rfl,hb2⟩
 obtain ⟨n0,n1,n2,n3,n4⟩:=fiveO (((k_trans L1.out hb2).block w.heap.size (by simp)).trans (newestO _ _))
 have K2:=Hid.intro (k_trans K1.out hb2)
 clear hb2
 go_wp2_with fail
 refine (rowsOk_any _ t.rows _ (HR.out.kept K2.out)).mono ?_
 rintro e w3 ⟨rfl,hb3⟩
 have K3:=Hid.intro (k_trans K2.out hb3)
 clear hb3
 go_wp2
 go_ret
 exact ⟨retB HF.out.symm,K3.out⟩
end Go.Proofs.Ytggmjiddadjilaj
namespace Go.Proofs.Ytggmjiddadjilaj
open Go.RowKit

structure OfJ (n0:Nat) (W0:World) (ac ar:Option Addr) (cc cr:Nat) (t:T) (L:Nat→Bool) (w:World) (v3 v8 v9 v10 v11 v12 v13 v14 v15:Value):Prop where
 f0:L 0=true→v8=.pointer (some ⟨n0,3,none⟩)
 f1:L 1=true→v9=.slice ar t.rows.length cr
 f2:L 2=true→v10=.int .i64 (t.rows.length:Int)
 f3:L 3=true→v11=.pointer (some ⟨n0,0,none⟩)
 f4:L 4=true→v12=.slice ac t.cols.length cc
 f5:L 5=true→v13=.int .i64 (t.cols.length:Int)
 f6:L 6=true→v14=.int .i64 (max 1 (t.cols.length:Int))
 f7:L 7=true→v15=.agg #[.int .i64 (t.rows.length:Int),.int .i64 (max 1 (t.cols.length:Int)),.slice none 0 0]
 f8:L 8=true→∃ g,v3=.pointer (some ⟨g,0,none⟩)∧W0.heap.size≤g∧(L 9=false→w.heap[g]?=some (.cells #[.int .i64 0,.int .i64 0,.slice none 0 0] 25))
 f9:L 9=true→∃ g,v3=.pointer (some ⟨g,0,none⟩)∧W0.heap.size≤g∧w.heap[g]?=some (.cells #[.int .i64 (t.rows.length:Int),.int .i64 (max 1 (t.cols.length:Int)),.slice none 0 0] 25)
 o9:L 9=true→L 8=true
 bk:Below W0.heap.size W0 w
def ofJ (n0:Nat) (W0:World) (ac ar:Option Addr) (cc cr:Nat) (t:T) (mk:Value→Value→Value→Value→Value→Value→Value→Value→Value→Act) (L:Nat→Bool) (a:Act) (w:World):Prop:=∃ v3 v8 v9 v10 v11 v12 v13 v14 v15:Value,a=mk v3 v8 v9 v10 v11 v12 v13 v14 v15∧OfJ n0 W0 ac ar cc cr t L w v3 v8 v9 v10 v11 v12 v13 v14 v15
theorem threeZ {w:World} {g:Nat} {x0 x1 x2:Value} {t:TypeId} (h:w.heap[g]?=some (.cells #[x0,x1,x2] t)) :
  (w.cell? ⟨g,0,none⟩=some x0∧w.cell? ⟨g,1,none⟩=some x1∧w.cell? ⟨g,2,none⟩=some x2)∧w.frozen? ⟨g,0,none⟩=false∧w.frozen? ⟨g,1,none⟩=false∧w.frozen? ⟨g,2,none⟩=false :=
 ⟨⟨cellB h,cellB h,cellB h⟩,freeB h,freeB h,freeB h⟩
/-- what stays all along: the table, the answer's block, the grid -/
structure SG (w:World) (gb:Nat) (ac ar:Option Addr) (cc cr:Nat) (t:T) (C:Int) (vg:Value) (gs:List GC) (W:World):Prop where
 bel:Below w.heap.size w W
 tbl:W.heap[w.heap.size]?=some (.cells #[.slice ac t.cols.length cc,.int .i64 t.head,.int .i64 t.foot,.slice ar t.rows.length cr,.int .i64 t.gap] 37)
 res:W.heap[w.heap.size+1]?=some (.cells #[.int .i64 0,.int .i64 0,.slice none 0 0] 25)
 grd:W.heap[gb]?=some (.cells #[.int .i64 (t.rows.length:Int),.int .i64 C,vg] 25)
 own:OwnG W (w.heap.size+2) vg gs
theorem fiveT {w:World} {g:Nat} {x0 x1 x2 x3 x4:Value} {t:TypeId} (h:w.heap[g]?=some (.cells #[x0,x1,x2,x3,x4] t)) :
  (w.cell? ⟨g,0,none⟩=some x0∧w.cell? ⟨g,1,none⟩=some x1∧w.cell? ⟨g,2,none⟩=some x2∧w.cell? ⟨g,3,none⟩=some x3∧w.cell? ⟨g,4,none⟩=some x4)∧w.frozen? ⟨g,0,none⟩=false∧w.frozen? ⟨g,1,none⟩=false∧w.frozen? ⟨g,2,none⟩=false∧w.frozen? ⟨g,3,none⟩=false∧w.frozen? ⟨g,4,none⟩=false :=
 ⟨⟨cellB h,cellB h,cellB h,cellB h,cellB h⟩,freeB h,freeB h,freeB h,freeB h,freeB h⟩
theorem blk_kept {w w':World} {g:Nat} {o:Obj} (h:w.heap[g]?=some o) (hb:Below w.heap.size w w'):w'.heap[g]?=some o:=(hb.block g (Array.getElem?_eq_some_iff.1 h).1).trans h
theorem row_kept {w w':World} {base:Nat} {e:TypeId} {sz:Nat} {v:Value} {m:Nat} {xs:List Value} (h:w.ownsRow base e sz v m xs) (k:Below w.heap.size w w'):w'.ownsRow base e sz v m xs :=
 ⟨h.1,h.2.elim Or.inl (fun ⟨g,cap,cur,hv,hg,hc,q⟩=>Or.inr ⟨g,cap,cur,hv,hg,blk_kept hc k,q⟩)⟩
theorem SG.kept {w W W':World} {gb:Nat} {ac ar:Option Addr} {cc cr:Nat} {t:T} {C:Int} {vg:Value} {gs:List GC} (h:SG w gb ac ar cc cr t C vg gs W) (k:Below W.heap.size W W'):SG w gb ac ar cc cr t C vg gs W' :=
 ⟨h.bel.trans (k.mono h.bel.size),blk_kept h.tbl k,blk_kept h.res k,blk_kept h.grd k,row_kept h.own k⟩
theorem own_ne' {v:Value} {g:Nat} (h:∀ b,v.ownBlock=some b→b ≠ g):some g ≠ v.ownBlock:=fun e=>h g e.symm rfl
/-- one block, of the call's own, may be turned -/
theorem SG.bkc {w W W':World} {gb cb:Nat} {ac ar:Option Addr} {cc cr:Nat} {t:T} {C:Int} {vg:Value} {gs:List GC} (h:SG w gb ac ar cc cr t C vg gs W) (k:Bk cb W W') (hcb:w.heap.size+2≤cb) (hne:gb ≠ cb) (hv:∀ b,vg.ownBlock=some b→b ≠ cb):SG w gb ac ar cc cr t C vg gs W' :=
 ⟨h.bel.trans (k.below h.bel.size (by omega)),(k.block _ (Array.getElem?_eq_some_iff.1 h.tbl).1 (by omega)).trans h.tbl,(k.block _ (Array.getElem?_eq_some_iff.1 h.res).1 (by omega)).trans h.res,(k.block _ (Array.getElem?_eq_some_iff.1 h.grd).1 hne).trans h.grd,
  row_off (n:=w.heap.size+2) (b1:=some cb) (b2:=none) h.own ⟨k.size,fun j _ hj h1 _=>k.block j hj (fun e=>h1 (by rw [e]))⟩ (Nat.le_refl _) (by
   cases hb:vg.ownBlock with
   | none=>exact .inl rfl
   | some b=>exact .inr (fun e=>by injection e with e;exact hv b hb e)) (by cases vg.ownBlock <;> simp)⟩
end Go.Proofs.Ytggmjiddadjilaj
namespace Go.Proofs.Ytggmjiddadjilaj
open Go.RowKit Go.BigFrame

end Go.Proofs.Ytggmjiddadjilaj
