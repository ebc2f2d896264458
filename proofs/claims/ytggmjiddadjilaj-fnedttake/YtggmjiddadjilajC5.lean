/-
  PROVED HERE: what the program's CellOk answers at every cell whose text is a Go string. Also: what the program's columnOk answers at every column. Also: what the program's columnsOk, rowOk, rowsOk and partsOk answer at a table that lies in memory; nothing that was in memory is turned. Also: what the program's TblOk answers at a table that lies in memory: one Bool; nothing that was in memory is turned. Also: a region that draws its order, by a fact that each operation keeps, whatever was carried out ahead of it.
-/
import Derived.Test.YtggmjiddadjilajC3
import Derived.Test.YtggmjiddadjilajC4
import Derived.Test.YtggmjiddadjilajC1
import Derived.WalkLawsBesides
import Derived.WalkSpells
import Derived.Deep.QuietTactic
import Derived.BigQuiet
import Derived.RegionTactic
import Derived.Lib.SmallJoins
import Derived.Orders
namespace Go.Proofs.Ytggmjiddadjilaj
open Go.RowKit

set_option maxRecDepth 100000 in
set_option maxHeartbeats 1000000 in
theorem implCellOk (s:ByteArray) (c r a1 b1 a2 b2 a3 b3 a4 b4:Int) (w:World) (hs:s.size≤maxLen) :
  Calls Try.prog 48 #[.agg #[.string s,.int .i64 c,.int .i64 r,.int .i64 a1,.int .i64 b1,.int .i64 a2,.int .i64 b2,.int .i64 a3,.int .i64 b3,.int .i64 a4,.int .i64 b4]] w fun e w'=>e=.returned (.bool (cellOkB s c r a1 b1 a2 b2 a3 b3 a4 b4))∧Below w.heap.size w w':=by
 cases h0:txtOkB s
 ·
  as_aux_lemma =>
   have HB:Hid (cellOkB s c r a1 b1 a2 b2 a3 b3 a4 b4=false):=Hid.mk (by simp [cellOkB,h0])
   go_enter Try.func48,Try.ntmps48
   go_wp2_with (first | (go_at_call 43;refine (implTxtOk _ _ hs).mono ?_;rintro e w' ⟨rfl,rfl⟩) | (go_at_call 36;refine (within_any _ _ _ _).mono ?_;rintro e w' ⟨rfl,rfl⟩) | (go_at_call 80;refine (implBrdOk _ _ _).mono ?_;rintro e w' ⟨rfl,rfl⟩))
   go_ret
   exact ⟨retB HB.out.symm,by repeat (first | exact Below.refl _ _ | apply k_alloc)⟩
 cases h1:inB c 1 4
 ·
  as_aux_lemma =>
   have HB:Hid (cellOkB s c r a1 b1 a2 b2 a3 b3 a4 b4=false):=Hid.mk (by simp [cellOkB,h0,h1])
   go_enter Try.func48,Try.ntmps48
   go_wp2_with (first | (go_at_call 43;refine (implTxtOk _ _ hs).mono ?_;rintro e w' ⟨rfl,rfl⟩) | (go_at_call 36;refine (within_any _ _ _ _).mono ?_;rintro e w' ⟨rfl,rfl⟩) | (go_at_call 80;refine (implBrdOk _ _ _).mono ?_;rintro e w' ⟨rfl,rfl⟩))
   go_ret
   exact ⟨retB HB.out.symm,by repeat (first | exact Below.refl _ _ | apply k_alloc)⟩
 cases h2:inB r 1 4
 ·
  as_aux_lemma =>
   have HB:Hid (cellOkB s c r a1 b1 a2 b2 a3 b3 a4 b4=false):=Hid.mk (by simp [cellOkB,h0,h1,h2])
   go_enter Try.func48,Try.ntmps48
   go_wp2_with (first | (go_at_call 43;refine (implTxtOk _ _ hs).mono ?_;rintro e w' ⟨rfl,rfl⟩) | (go_at_call 36;refine (within_any _ _ _ _).mono ?_;rintro e w' ⟨rfl,rfl⟩) | (go_at_call 80;refine (implBrdOk _ _ _).mono ?_;rintro e w' ⟨rfl,rfl⟩))
   go_ret
   exact ⟨retB HB.out.symm,by repeat (first | exact Below.refl _ _ | apply k_alloc)⟩
 cases h3:brdOkB a1 b1
 ·
  as_aux_lemma =>
   have HB:Hid (cellOkB s c r a1 b1 a2 b2 a3 b3 a4 b4=false):=Hid.mk (by simp [cellOkB,h0,h1,h2,h3])
   go_enter Try.func48,Try.ntmps48
   go_wp2_with (first | (go_at_call 43;refine (implTxtOk _ _ hs).mono ?_;rintro e w' ⟨rfl,rfl⟩) | (go_at_call 36;refine (within_any _ _ _ _).mono ?_;rintro e w' ⟨rfl,rfl⟩) | (go_at_call 80;refine (implBrdOk _ _ _).mono ?_;rintro e w' ⟨rfl,rfl⟩))
   go_ret
   exact ⟨retB HB.out.symm,by repeat (first | exact Below.refl _ _ | apply k_alloc)⟩
 cases h4:brdOkB a2 b2
 ·
  as_aux_lemma =>
   have HB:Hid (cellOkB s c r a1 b1 a2 b2 a3 b3 a4 b4=false):=Hid.mk (by simp [cellOkB,h0,h1,h2,h3,h4])
   go_enter Try.func48,Try.ntmps48
   go_wp2_with (first | (go_at_call 43;refine (implTxtOk _ _ hs).mono ?_;rintro e w' ⟨rfl,rfl⟩) | (go_at_call 36;refine (within_any _ _ _ _).mono ?_;rintro e w' ⟨rfl,rfl⟩) | (go_at_call 80;refine (implBrdOk _ _ _).mono ?_;rintro e w' ⟨rfl,rfl⟩))
   go_ret
   exact ⟨retB HB.out.symm,by repeat (first | exact Below.refl _ _ | apply k_alloc)⟩
 cases h5:brdOkB a3 b3
 ·
  as_aux_lemma =>
   have HB:Hid (cellOkB s c r a1 b1 a2 b2 a3 b3 a4 b4=false):=Hid.mk (by simp [cellOkB,h0,h1,h2,h3,h4,h5])
   go_enter Try.func48,Try.ntmps48
   go_wp2_with (first | (go_at_call 43;refine (implTxtOk _ _ hs).mono ?_;rintro e w' ⟨rfl,rfl⟩) | (go_at_call 36;refine (within_any _ _ _ _).mono ?_;rintro e w' ⟨rfl,rfl⟩) | (go_at_call 80;refine (implBrdOk _ _ _).mono ?_;rintro e w' ⟨rfl,rfl⟩))
   go_ret
   exact ⟨retB HB.out.symm,by repeat (first | exact Below.refl _ _ | apply k_alloc)⟩
 as_aux_lemma =>
  have HB:Hid (cellOkB s c r a1 b1 a2 b2 a3 b3 a4 b4=brdOkB a4 b4):=Hid.mk (by simp [cellOkB,h0,h1,h2,h3,h4,h5])
  go_enter Try.func48,Try.ntmps48
  go_wp2_with (first | (go_at_call 43;refine (implTxtOk _ _ hs).mono ?_;rintro e w' ⟨rfl,rfl⟩) | (go_at_call 36;refine (within_any _ _ _ _).mono ?_;rintro e w' ⟨rfl,rfl⟩) | (go_at_call 80;refine (implBrdOk _ _ _).mono ?_;rintro e w' ⟨rfl,rfl⟩))
  go_ret
  exact ⟨retB HB.out.symm,by repeat (first | exact Below.refl _ _ | apply k_alloc)⟩
end Go.Proofs.Ytggmjiddadjilaj
namespace Go.Proofs.Ytggmjiddadjilaj
open Go.RowKit

theorem ta_auto_fixed (n:Int) (w:World):(Instr.typeAssert (.iface 132 (.agg #[.int .i64 n])) 123 134 true).run Try.prog w=.ok (.tuple #[.agg #[.int .i64 0],.bool false]) w:=by kernel_rfl
theorem ta_auto_part (n:Int) (w:World):(Instr.typeAssert (.iface 132 (.agg #[.int .i64 n])) 123 136 true).run Try.prog w=.ok (.tuple #[.agg #[.int .i64 0],.bool false]) w:=by kernel_rfl
theorem ta_fixed_fixed (n:Int) (w:World):(Instr.typeAssert (.iface 134 (.agg #[.int .i64 n])) 123 134 true).run Try.prog w=.ok (.tuple #[.agg #[.int .i64 n],.bool true]) w:=by kernel_rfl
theorem ta_part_fixed (n:Int) (w:World):(Instr.typeAssert (.iface 136 (.agg #[.int .i64 n])) 123 134 true).run Try.prog w=.ok (.tuple #[.agg #[.int .i64 0],.bool false]) w:=by kernel_rfl
theorem ta_part_part (n:Int) (w:World):(Instr.typeAssert (.iface 136 (.agg #[.int .i64 n])) 123 136 true).run Try.prog w=.ok (.tuple #[.agg #[.int .i64 n],.bool true]) w:=by kernel_rfl
theorem me_auto (n : Int) (w : World) : (method 253 132 (.agg #[.int .i64 n]) "loop.example/panework/impl.number").run Try.prog w = .ok (114, .agg #[.int .i64 n]) w := by kernel_rfl
theorem me_fixed (n : Int) (w : World) : (method 253 134 (.agg #[.int .i64 n]) "loop.example/panework/impl.number").run Try.prog w = .ok (115, .agg #[.int .i64 n]) w := by kernel_rfl
theorem me_part (n : Int) (w : World) : (method 253 136 (.agg #[.int .i64 n]) "loop.example/panework/impl.number").run Try.prog w = .ok (116, .agg #[.int .i64 n]) w := by kernel_rfl

set_option maxRecDepth 100000 in
set_option maxHeartbeats 1000000 in
theorem implColumnOk (k n:Int) (w:World) :
  Calls Try.prog 84 #[.agg #[.int .i64 k,.int .i64 n]] w fun e w'=>e=.returned (.bool (colB k n))∧Below w.heap.size w w':=by
 by_cases h0:k=0
 ·subst h0
  have t1:=fun w=>ta_auto_fixed n w
  have t2:=fun w=>ta_auto_part n w
  have t3:=fun w=>me_auto n w
  have HC:=Hid.intro (colB_0 n)
  go_enter Try.func84,Try.ntmps84
  go_wp2_with (first | (go_at_call 36;refine (within_any _ _ _ _).mono ?_;rintro e w' ⟨rfl,rfl⟩) | go_in)
  go_ret
  exact ⟨retB HC.out.symm,by repeat (first | refine k_alloc ?_ _ | exact Below.refl _ _)⟩
 by_cases h1:k=1
 ·subst h1
  have t1:=fun w=>ta_fixed_fixed n w
  have t3:=fun w=>me_fixed n w
  have HC:=Hid.intro (colB_1 n)
  go_enter Try.func84,Try.ntmps84
  go_wp2_with (first | (go_at_call 36;refine (within_any _ _ _ _).mono ?_;rintro e w' ⟨rfl,rfl⟩) | go_in)
  go_ret
  exact ⟨retB HC.out.symm,by repeat (first | refine k_alloc ?_ _ | exact Below.refl _ _)⟩
 by_cases h2:k=2
 ·subst h2
  have t1:=fun w=>ta_part_fixed n w
  have t2:=fun w=>ta_part_part n w
  have t3:=fun w=>me_part n w
  have HC:=Hid.intro (colB_2 n)
  go_enter Try.func84,Try.ntmps84
  go_wp2_with (first | (go_at_call 36;refine (within_any _ _ _ _).mono ?_;rintro e w' ⟨rfl,rfl⟩) | go_in)
  go_ret
  exact ⟨retB HC.out.symm,by repeat (first | refine k_alloc ?_ _ | exact Below.refl _ _)⟩
 have e0:(k == 0)=false:=beq_eq_false_iff_ne.2 h0
 have e1:(k == 1)=false:=beq_eq_false_iff_ne.2 h1
 have e2:(k == 2)=false:=beq_eq_false_iff_ne.2 h2
 have HC:=Hid.intro (colB_no n h0 h1 h2)
 clear h0 h1 h2
 go_enter Try.func84,Try.ntmps84
 go_wp2
 go_ret
 exact ⟨retB HC.out.symm,by repeat (first | refine k_alloc ?_ _ | exact Below.refl _ _)⟩
end Go.Proofs.Ytggmjiddadjilaj
namespace Go.Proofs.Ytggmjiddadjilaj
open Go.RowKit

set_option maxRecDepth 100000 in
set_option maxHeartbeats 1000000 in
theorem columnsOk_any (v:Value) (ps:List (Int × Int)) (w:World) {z:Nat} (h:ColsAt w z v ps) :
  Calls Try.prog 60 #[v] w fun e w'=>e=.returned (.bool (colsB ps))∧Below w.heap.size w w':=by
 obtain ⟨a,cap,rfl,hlen⟩:=At.form h
 unfold maxLen at hlen
 have H:=Hid.intro h
 clear h
 by_cases h8:(8:Int) < (ps.length:Int)
 ·have HF:Hid (colsB ps=false):=Hid.intro (by have:¬ ps.length≤8:=by omega
                                              simp [colsB,this])
  go_enter Try.func60,Try.ntmps60
  go_wp2
  go_ret
  exact ⟨retB HF.out.symm,Below.refl _ _⟩
 ·have h8':ps.length≤8:=by omega
  go_enter Try.func60,Try.ntmps60
  go_wp2_with fail
  go_loopw [4,10] (fun _ i W=>∃ k:Nat,k≤ps.length∧i=.int .i64 k∧Hid (∀ j,j < k→(fun p:Int × Int=>colB p.1 p.2) (ps.getD j (0,0))=true)∧Hid (Below w.heap.size w W)) (fun _ i _=>ps.length - (intOf i).toNat)
  case atStart=>exact ⟨0,Nat.zero_le _,rfl,fun j hj=>absurd hj (Nat.not_lt_zero _),Below.refl _ _⟩
  case round =>
   obtain ⟨k,hk,rfl,HA,HB⟩:=hrel
   by_cases hlt:k < ps.length
   ·obtain ⟨b,off,cap',e',hc1,hc2,hbl,hx0,hx1⟩:=At.get (H.out.kept HB.out) hlt
    simp only [Value.slice.injEq,true_and] at e'
    obtain ⟨rfl,rfl⟩:=e'
    unfold maxLen at hc2
    cases hv:colB (ps.getD k (0,0)).1 (ps.getD k (0,0)).2
    ·have HF:Hid (colsB ps=false):=Hid.intro (by rw [colsB,all_false (0,0) (fun p:Int × Int=>colB p.1 p.2) ps k hlt hv,Bool.and_false])
     generalize ps.getD k (0,0)=x at hx0 hx1 hv
     go_wp2_with fail
     refine (implColumnOk _ _ _).mono ?_
     rw [hv]
     rintro e w1 ⟨rfl,hb1⟩
     have K1:=Hid.intro (k_trans (k_alloc HB.out _) hb1)
     clear hb1
     go_wp2
     go_ret
     exact ⟨retB HF.out.symm,K1.out⟩
    ·have HN:=Hid.intro (next_true (p:=fun p:Int × Int=>colB p.1 p.2) HA.out hv)
     generalize ps.getD k (0,0)=x at hx0 hx1 hv
     go_wp2_with fail
     refine (implColumnOk _ _ _).mono ?_
     rw [hv]
     rintro e w1 ⟨rfl,hb1⟩
     have K1:=Hid.intro (k_trans (k_alloc HB.out _) hb1)
     clear hb1
     go_wp2
     go_roundw
     case rel=>exact ⟨k+1,by omega,by go_num,HN,K1⟩
     case measure=>simp [intOf];omega
   ·obtain rfl:k=ps.length:=by omega
    have HF:Hid (colsB ps=true):=Hid.intro (by rw [colsB,all_true (0,0) (fun p:Int × Int=>colB p.1 p.2) ps HA.out];simp [h8'])
    go_wp2
    go_ret
    exact ⟨retB HF.out.symm,HB.out⟩

set_option maxRecDepth 100000 in
set_option maxHeartbeats 1000000 in
theorem rowOk_any (u:Value) (r:R) (w:World) {z:Nat} (h:CellsAt w z u r.cells) :
  Calls Try.prog 85 #[.agg #[u,.bool r.whole]] w fun e w'=>e=.returned (.bool (rowB r))∧Below w.heap.size w w':=by
 obtain ⟨a,cap,rfl,hlen⟩:=At.form h
 unfold maxLen at hlen
 have H:=Hid.intro h
 clear h
 by_cases h8:(5:Int) < (r.cells.length:Int)
 ·have HF:Hid (rowB r=false):=Hid.intro (by have:¬ r.cells.length≤5:=by omega
                                            simp [rowB,this])
  go_enter Try.func85,Try.ntmps85
  go_wp2
  go_ret
  exact ⟨retB HF.out.symm,k_alloc (Below.refl _ _) _⟩
 ·have h8':r.cells.length≤5:=by omega
  go_enter Try.func85,Try.ntmps85
  go_wp2_with fail
  go_loopw [4,12] (fun _ i W=>∃ k:Nat,k≤r.cells.length∧i=.int .i64 k∧Hid (∀ j,j < k→cB (r.cells.getD j dC)=true)∧Hid (Below w.heap.size w W)) (fun _ i _=>r.cells.length - (intOf i).toNat)
  case atStart=>exact ⟨0,Nat.zero_le _,rfl,fun j hj=>absurd hj (Nat.not_lt_zero _),k_alloc (Below.refl _ _) _⟩
  case round =>
   obtain ⟨k,hk,rfl,HA,HB⟩:=hrel
   by_cases hlt:k < r.cells.length
   ·obtain ⟨b,off,cap',e',hc1,hc2,hbl,hx,hs⟩:=At.get (H.out.kept HB.out) hlt
    simp only [Value.slice.injEq,true_and] at e'
    obtain ⟨rfl,rfl⟩:=e'
    unfold maxLen at hc2
    have hs':=Hid.intro hs
    cases hv:cB (r.cells.getD k dC)
    ·have HF:Hid (rowB r=false):=Hid.intro (by rw [rowB,all_false dC cB r.cells k hlt hv,Bool.and_false])
     generalize r.cells.getD k dC=x at hx hs' hv
     obtain ⟨x0,x1,x2,x3,x4,x5,x6,x7,x8,x9,x10⟩:=hx
     clear hs
     go_wp2_with fail
     refine (implCellOk _ _ _ _ _ _ _ _ _ _ _ _ hs'.out).mono ?_
     rw [show cellOkB x.s x.c x.r x.a1 x.b1 x.a2 x.b2 x.a3 x.b3 x.a4 x.b4=false from hv]
     rintro e w1 ⟨rfl,hb1⟩
     have K1:=Hid.intro (k_trans (k_alloc HB.out _) hb1)
     clear hb1
     go_wp2
     go_ret
     exact ⟨retB HF.out.symm,K1.out⟩
    ·have HN:=Hid.intro (next_true HA.out hv)
     generalize r.cells.getD k dC=x at hx hs' hv
     obtain ⟨x0,x1,x2,x3,x4,x5,x6,x7,x8,x9,x10⟩:=hx
     clear hs
     go_wp2_with fail
     refine (implCellOk _ _ _ _ _ _ _ _ _ _ _ _ hs'.out).mono ?_
     rw [show cellOkB x.s x.c x.r x.a1 x.b1 x.a2 x.b2 x.a3 x.b3 x.a4 x.b4=true from hv]
     rintro e w1 ⟨rfl,hb1⟩
     have K1:=Hid.intro (k_trans (k_alloc HB.out _) hb1)
     clear hb1
     go_wp2
     go_roundw
     case rel=>exact ⟨k+1,by omega,by go_num,HN,K1⟩
     case measure=>simp [intOf];omega
   ·obtain rfl:k=r.cells.length:=by omega
    have HF:Hid (rowB r=true):=Hid.intro (by rw [rowB,all_true dC cB r.cells HA.out];simp [h8'])
    go_wp2
    go_ret
    exact ⟨retB HF.out.symm,HB.out⟩

set_option maxRecDepth 100000 in
set_option maxHeartbeats 1000000 in
theorem rowsOk_any (v:Value) (rs:List R) (w:World) {z:Nat} (h:RowsAt w z v rs) :
  Calls Try.prog 61 #[v] w fun e w'=>e=.returned (.bool (rs.all rowB))∧Below w.heap.size w w':=by
 obtain ⟨a,cap,rfl,hlen⟩:=At.form h
 unfold maxLen at hlen
 have H:=Hid.intro h
 clear h
 go_enter Try.func61,Try.ntmps61
 go_wp2_with fail
 go_loopw [4,7] (fun _ i W=>∃ k:Nat,k≤rs.length∧i=.int .i64 k∧Hid (∀ j,j < k→rowB (rs.getD j dR)=true)∧Hid (Below w.heap.size w W)) (fun _ i _=>rs.length - (intOf i).toNat)
 case atStart=>exact ⟨0,Nat.zero_le _,rfl,fun j hj=>absurd hj (Nat.not_lt_zero _),Below.refl _ _⟩
 case round =>
  obtain ⟨k,hk,rfl,HA,HB⟩:=hrel
  by_cases hlt:k < rs.length
  ·obtain ⟨b,off,cap',e',hc1,hc2,hbl,u,hx0,hx1,hx⟩:=At.get (H.out.kept HB.out) hlt
   simp only [Value.slice.injEq,true_and] at e'
   obtain ⟨rfl,rfl⟩:=e'
   unfold maxLen at hc2
   obtain ⟨ua,ucap,rfl,_⟩:=At.form hx
   have HX:=Hid.intro hx
   clear hx
   cases hv:rowB (rs.getD k dR)
   ·have HF:Hid (rs.all rowB=false):=Hid.intro (all_false dR rowB rs k hlt hv)
    generalize rs.getD k dR=x at hx0 hx1 hv HX
    go_wp2_with fail
    refine (rowOk_any _ x _ (HX.out.kept (k_alloc (Below.refl _ _) _))).mono ?_
    rw [hv]
    rintro e w1 ⟨rfl,hb1⟩
    have K1:=Hid.intro (k_trans (k_alloc HB.out _) hb1)
    clear hb1
    go_wp2
    go_ret
    exact ⟨retB HF.out.symm,K1.out⟩
   ·have HN:=Hid.intro (next_true HA.out hv)
    generalize rs.getD k dR=x at hx0 hx1 hv HX
    go_wp2_with fail
    refine (rowOk_any _ x _ (HX.out.kept (k_alloc (Below.refl _ _) _))).mono ?_
    rw [hv]
    rintro e w1 ⟨rfl,hb1⟩
    have K1:=Hid.intro (k_trans (k_alloc HB.out _) hb1)
    clear hb1
    go_wp2
    go_roundw
    case rel=>exact ⟨k+1,by omega,by go_num,HN,K1⟩
    case measure=>simp [intOf];omega
  ·obtain rfl:k=rs.length:=by omega
   have HF:Hid (rs.all rowB=true):=Hid.intro (all_true dR rowB rs HA.out)
   go_wp2
   go_ret
   exact ⟨retB HF.out.symm,HB.out⟩

set_option maxRecDepth 100000 in
set_option maxHeartbeats 1000000 in
theorem partsOk_any (vc:Value) (ar:Option Addr) (n cr:Nat) (hd ft gp:Int) (a:Option Addr) (m c:Nat) (hvc:vc=.slice a m c) (hn:n≤4611686018427387903) (w:World) :
  Calls Try.prog 59 #[.agg #[vc,.int .i64 hd,.int .i64 ft,.slice ar n cr,.int .i64 gp]] w fun e w'=>e=.returned (.bool (partsB n hd ft))∧Below w.heap.size w w':=by
 subst hvc
 cases h1:inB hd 0 n
 ·have HF:Hid (partsB n hd ft=false):=Hid.intro (by rw [partsB,h1];rfl)
  go_enter Try.func59,Try.ntmps59
  go_wp2_with (go_at_call 36;refine (within_any _ _ _ _).mono ?_;rintro e w' ⟨rfl,rfl⟩)
  go_ret
  exact ⟨retB HF.out.symm,k_alloc (Below.refl _ _) _⟩
 ·have h1':0≤hd∧hd≤n:=of_decide_eq_true h1
  obtain ⟨g1,g2⟩:=h1'
  have HF:Hid (partsB n hd ft=inB ft 0 (n - hd)):=Hid.intro (by rw [partsB,h1];rfl)
  go_enter Try.func59,Try.ntmps59
  go_wp2_with (go_at_call 36;refine (within_any _ _ _ _).mono ?_;rintro e w' ⟨rfl,rfl⟩)
  go_ret
  exact ⟨retB HF.out.symm,k_alloc (Below.refl _ _) _⟩
end Go.Proofs.Ytggmjiddadjilaj
namespace Go.Proofs.Ytggmjiddadjilaj
open Go.RowKit

set_option maxRecDepth 100000 in
set_option maxHeartbeats 2000000 in
theorem implTblOk (ac ar:Option Addr) (cc cr:Nat) (t:T) (w:World) {z:Nat} (hc:ColsAt w z (.slice ac t.cols.length cc) t.cols) (hr:RowsAt w z (.slice ar t.rows.length cr) t.rows) :
  Calls Try.prog 19 #[.agg #[.slice ac t.cols.length cc,.int .i64 t.head,.int .i64 t.foot,.slice ar t.rows.length cr,.int .i64 t.gap]] w fun e w'=>e=.returned (.bool (tblB t))∧Below w.heap.size w w':=by
 have HC:=Hid.intro hc
 have HR:=Hid.intro hr
 clear hc hr
 have K0:=Hid.intro (k_alloc (Below.refl w.heap.size w) (.cells #[.slice ac t.cols.length cc,.int .i64 t.head,.int .i64 t.foot,.slice ar t.rows.length cr,.int .i64 t.gap] 37))
 cases h0:inB t.rows.length 1 8
 ·skip
  have HF:Hid (tblB t=false):=Hid.intro (by simp [tblB,h0])
  go_enter Try.func19,Try.ntmps19
  go_wp2_with (go_at_call 36;refine (within_any _ _ _ _).mono ?_;rintro e w' ⟨rfl,rfl⟩)
  go_ret
  exact ⟨retB HF.out.symm,k_alloc (Below.refl _ _) _⟩
 cases h1:partsB t.rows.length t.head t.foot
 ·skip
  have HF:Hid (tblB t=false):=Hid.intro (by simp [tblB,h0,h1])
  have hN:0≤((t.rows.length:Nat):Int) - 1∧((t.rows.length:Nat):Int)≤8:=by have:=of_decide_eq_true h0;omega
  go_enter Try.func19,Try.ntmps19
  go_wp2_with (go_at_call 36;refine (within_any _ _ _ _).mono ?_;rintro e w' ⟨rfl,rfl⟩)
  refine (partsOk_any _ ar t.rows.length cr t.head t.foot t.gap ac t.cols.length cc rfl (by omega) _).mono ?_
  rw [h1]
  rintro e w1 ⟨rfl,hb1⟩
  obtain ⟨m0,m1,m2,m3,m4⟩:=fiveO ((hb1.block w.heap.size (by simp)).trans (newestO _ _))
  have K1:=Hid.intro (k_trans K0.out hb1)
  have L1:=Hid.intro hb1
  clear hb1
  go_wp2_with (go_at_call 36;refine (within_any _ _ _ _).mono ?_;rintro e w' ⟨rfl,rfl⟩)
  go_ret
  exact ⟨retB HF.out.symm,K1.out⟩
 cases h2:inB t.gap 0 3
 ·skip
  have HF:Hid (tblB t=false):=Hid.intro (by simp [tblB,h0,h1,h2])
  have hN:0≤((t.rows.length:Nat):Int) - 1∧((t.rows.length:Nat):Int)≤8:=by have:=of_decide_eq_true h0;omega
  go_enter Try.func19,Try.ntmps19
  go_wp2_with (go_at_call 36;refine (within_any _ _ _ _).mono ?_;rintro e w' ⟨rfl,rfl⟩)
  refine (partsOk_any _ ar t.rows.length cr t.head t.foot t.gap ac t.cols.length cc rfl (by omega) _).mono ?_
  rw [h1]
  rintro e w1 ⟨rfl,hb1⟩
  obtain ⟨m0,m1,m2,m3,m4⟩:=fiveO ((hb1.block w.heap.size (by simp)).trans (newestO _ _))
  have K1:=Hid.intro (k_trans K0.out hb1)
  have L1:=Hid.intro hb1
  clear hb1
  go_wp2_with (go_at_call 36;refine (within_any _ _ _ _).mono ?_;rintro e w' ⟨rfl,rfl⟩)
  go_ret
  exact ⟨retB HF.out.symm,K1.out⟩
 cases h3:colsB t.cols
 ·skip
  have HF:Hid (tblB t=false):=Hid.intro (by simp [tblB,h0,h1,h2,h3])
  have hN:0≤((t.rows.length:Nat):Int) - 1∧((t.rows.length:Nat):Int)≤8:=by have:=of_decide_eq_true h0;omega
  go_enter Try.func19,Try.ntmps19
  go_wp2_with (go_at_call 36;refine (within_any _ _ _ _).mono ?_;rintro e w' ⟨rfl,rfl⟩)
  refine (partsOk_any _ ar t.rows.length cr t.head t.foot t.gap ac t.cols.length cc rfl (by omega) _).mono ?_
  rw [h1]
  rintro e w1 ⟨rfl,hb1⟩
  obtain ⟨m0,m1,m2,m3,m4⟩:=fiveO ((hb1.block w.heap.size (by simp)).trans (newestO _ _))
  have K1:=Hid.intro (k_trans K0.out hb1)
  have L1:=Hid.intro hb1
  clear hb1
  go_wp2_with (go_at_call 36;refine (within_any _ _ _ _).mono ?_;rintro e w' ⟨rfl,rfl⟩)
  refine (columnsOk_any _ t.cols _ (HC.out.kept K1.out)).mono ?_
  rw [h3]
  rintro e w2 ⟨rfl,hb2⟩
  obtain ⟨n0,n1,n2,n3,n4⟩:=fiveO (((k_trans L1.out hb2).block w.heap.size (by simp)).trans (newestO _ _))
  have K2:=Hid.intro (k_trans K1.out hb2)
  clear hb2
  go_wp2
  go_ret
  exact ⟨retB HF.out.symm,K2.out⟩
 have HF:Hid (tblB t=t.rows.all rowB):=Hid.intro (by simp [tblB,h0,h1,h2,h3])
 have hN:0≤((t.rows.length:Nat):Int) - 1∧((t.rows.length:Nat):Int)≤8:=by have:=of_decide_eq_true h0;omega
 go_enter Try.func19,Try.ntmps19
 go_wp2_with (go_at_call 36;refine (within_any _ _ _ _).mono ?_;rintro e w' ⟨rfl,rfl⟩)
 refine (partsOk_any _ ar t.rows.length cr t.head t.foot t.gap ac t.cols.length cc rfl (by omega) _).mono ?_
 rw [h1]
 rintro e w1 ⟨rfl,hb1⟩
 obtain ⟨m0,m1,m2,m3,m4⟩:=fiveO ((hb1.block w.heap.size (by simp)).trans (newestO _ _))
 have K1:=Hid.intro (k_trans K0.out hb1)
 have L1:=Hid.intro hb1
 clear hb1
 go_wp2_with (go_at_call 36;refine (within_any _ _ _ _).mono ?_;rintro e w' ⟨rfl,rfl⟩)
 refine (columnsOk_any _ t.cols _ (HC.out.kept K1.out)).mono ?_
 rw [h3]
 rintro e w2 ⟨rfl,hb2⟩
 obtain ⟨n0,n1,n2,n3,n4⟩:=fiveO (((k_trans L1.out hb2).block w.heap.size (by simp)).trans (newestO _ _))
 have K2:=Hid.intro (k_trans K1.out hb2)
 clear hb2
 go_wp2_with fail
 refine (rowsOk_any _ t.rows _ (HR.out.kept K2.out)).mono ?_
 rintro e w3 ⟨rfl,hb3⟩
 have K3:=Hid.intro (k_trans K2.out hb3)
 clear hb3
 go_wp2
 go_ret
 exact ⟨retB HF.out.symm,K3.out⟩
end Go.Proofs.Ytggmjiddadjilaj
namespace Go.Proofs.Ytggmjiddadjilaj
open Go.RowKit

def upd (L:Nat→Bool) (i:Nat):Nat→Bool:=fun j=>if j=i then true else L j
theorem upd_ne {L:Nat→Bool} {i j:Nat} (h:(j == i)=false):upd L i j=L j:=by
 unfold upd
 rw [if_neg (fun e=>by rw [e] at h;simp at h)]
theorem un {L:Nat→Bool} {i j:Nat} {b:Bool} (h:upd L i j=b) (e:(j == i)=false:=by rfl):L j=b:=by rwa [upd_ne e] at h
theorem upd_self {L:Nat→Bool} {i:Nat}:upd L i i=true:=by simp [upd]
/-- each operation hangs on operations ahead of it alone -/
def aheadB (ops:Array Oper):Bool:=(List.range ops.size).all fun i=>((ops[i]?).map fun o=>o.after.all fun e=>!Region.binds .any e || decide (e.on < i)).getD true
theorem ahead_all {ops:Array Oper} (h:aheadB ops=true) {listed:Array Bool} (hs:listed.size=ops.size) (hr:Region.ready .any ops listed=[]):∀ i,i < ops.size→listed.getD i false=true:=by
 intro i
 induction i using Nat.strongRecOn with
 | ind i ih =>
  intro hi
  cases hl:listed.getD i false with
  | true=>rfl
  | false =>
   exfalso
   have ho:ops[i]?=some ops[i]:=Array.getElem?_eq_getElem hi
   have h1:=List.all_eq_true.1 h i (List.mem_range.2 hi)
   rw [ho] at h1
   simp only [Option.map_some,Option.getD_some] at h1
   have hm:i ∈ Region.ready .any ops listed:=by
    unfold Region.ready
    rw [List.mem_filter]
    refine ⟨List.mem_range.2 hi,?_⟩
    have h2:listed.getD i true=false:=by
     rw [Array.getD_eq_getD_getElem?,Array.getElem?_eq_getElem (by omega)] at hl ⊢
     exact hl
    rw [h2,ho]
    simp only [Bool.not_false,Bool.true_and,Option.map_some,Option.getD_some]
    rw [Array.all_eq_true_iff_forall_mem]
    intro e he
    have h3:=Array.all_eq_true_iff_forall_mem.1 h1 e he
    cases hbn:Region.binds .any e with
    | false=>simp
    | true =>
     rw [hbn] at h3
     have h4:e.on < i:=by simpa using h3
     rw [ih e.on h4 (by omega)]
     simp
   rw [hr] at hm
   cases hm
theorem listed_set {listed:Array Bool} {i:Nat} (hi:i < listed.size):(fun j=>(listed.setIfInBounds i true).getD j false)=upd (fun j=>listed.getD j false) i:=by
 funext j
 unfold upd
 rw [Array.getD_eq_getD_getElem?]
 by_cases h:j=i
 ·subst h;simp [hi]
 ·rw [if_neg h,Array.getElem?_setIfInBounds_ne (Ne.symm h)]
  exact (Array.getD_eq_getD_getElem? ..).symm
theorem count_set {l:List Bool} {i:Nat} (h:l[i]?=some false):(l.set i true).count false+1=l.count false:=by
 induction l generalizing i with
 | nil=>simp at h
 | cons a t ih =>
  cases i with
  | zero=>simp at h;subst h;simp
  | succ i =>
   simp at h
   have:=ih h
   rw [List.set_cons_succ,List.count_cons,List.count_cons]
   omega

section
variable {P:Program} {ops:Array Oper} {Q:Exit→Act→World→Prop} (J:(Nat→Bool)→Act→World→Prop)
theorem wpAny_inv (hord:aheadB ops=true)
  (hs:∀ (L:Nat→Bool) (a:Act) (w:World) (i:Nat) (o:Oper),J L a w→ops[i]?=some o→L i=false→(∀ e ∈ o.after,Region.binds .any e=true→L e.on=true) →
   ∀ K:Act→World→Prop,(∀ a' w',J (upd L i) a' w'→K a' w')→if Region.wanted o (yielded ops a.tmps)=true then o.wp P a w K Q else K (a.put o.dst undef) w)
  (hd:∀ (L:Nat→Bool) (a:Act) (w:World),J L a w→(∀ i,i < ops.size→L i=true)→Q .normal a w) :
  ∀ (fuel:Nat) (listed:Array Bool) (a:Act) (w:World),listed.size=ops.size→listed.toList.count false≤fuel→J (fun j=>listed.getD j false) a w→wpAny P .any ops Q fuel listed a w:=by
 intro fuel
 induction fuel with
 | zero =>
  intro listed a w hsz hc hJ
  have hall:∀ i,i < ops.size→listed.getD i false=true:=by
   intro i hi
   have h0:listed.toList.count false=0:=by omega
   have hi':i < listed.size:=by omega
   have:=List.count_eq_zero.1 h0
   have hm:listed[i] ∈ listed.toList:=by simp
   rw [Array.getD_eq_getD_getElem?,Array.getElem?_eq_getElem hi',Option.getD_some]
   cases hv:listed[i] with
   | true=>rfl
   | false=>rw [hv] at hm;exact absurd hm this
  refine ⟨?_,hd _ _ _ hJ hall⟩
  unfold Region.ready
  rw [List.filter_eq_nil_iff]
  intro i hi
  have hi2:=List.mem_range.1 hi
  have:=hall i hi2
  have h3:listed.getD i true=true:=by
   rw [Array.getD_eq_getD_getElem?,Array.getElem?_eq_getElem (by omega)] at this ⊢
   exact this
  rw [h3];simp
 | succ fuel ih =>
  intro listed a w hsz hc hJ
  refine ⟨fun hr=>hd _ _ _ hJ (ahead_all hord hsz hr),fun i hi=>?_⟩
  unfold Region.ready at hi
  rw [List.mem_filter] at hi
  obtain ⟨h1,h2⟩:=hi
  have hlt:=List.mem_range.1 h1
  have ho:ops[i]?=some ops[i]:=Array.getElem?_eq_getElem hlt
  rw [ho] at h2
  simp only [Option.map_some,Option.getD_some,Bool.and_eq_true] at h2
  obtain ⟨h3,h4⟩:=h2
  have hil:i < listed.size:=by omega
  have hv:listed[i]=false:=by
   rw [Array.getD_eq_getD_getElem?,Array.getElem?_eq_getElem hil] at h3
   simpa using h3
  have hfi:listed.getD i false=false:=by rw [Array.getD_eq_getD_getElem?,Array.getElem?_eq_getElem hil,hv];rfl
  have hstep:=hs _ a w i ops[i] hJ ho hfi (fun e he hb=>by
   have:=Array.all_eq_true_iff_forall_mem.1 h4 e he
   rw [hb] at this
   simpa using this) (wpAny P .any ops Q fuel (listed.setIfInBounds i true)) (fun a' w' hJ'=>ih _ a' w' (by simpa using hsz) (by
    have:=count_set (l:=listed.toList) (i:=i) (by rw [Array.getElem?_toList,Array.getElem?_eq_getElem hil,hv])
    rw [Array.toList_setIfInBounds]
    omega) (by rw [listed_set hil];exact hJ'))
  unfold wpOp
  rw [ho]
  dsimp only
  split
  ·rename_i hw;rw [if_pos hw] at hstep;exact .inl hstep
  ·rename_i hw;rw [if_neg hw] at hstep;exact hstep
theorem wp_region_inv {id:Nat} {a:Act} {w:World} (hm:P.follows .mixedOrders=true) (hord:aheadB ops=true)
  (hs:∀ (L:Nat→Bool) (a:Act) (w:World) (i:Nat) (o:Oper),J L a w→ops[i]?=some o→L i=false→(∀ e ∈ o.after,Region.binds .any e=true→L e.on=true) →
   ∀ K:Act→World→Prop,(∀ a' w',J (upd L i) a' w'→K a' w')→if Region.wanted o (yielded ops a.tmps)=true then o.wp P a w K Q else K (a.put o.dst undef) w)
  (hd:∀ (L:Nat→Bool) (a:Act) (w:World),J L a w→(∀ i,i < ops.size→L i=true)→Q .normal a w)
  (h0:J (fun _=>false) a w.drew):(Code.region id ops true).wp P Q a w:=by
 refine wp_region_any hm (wpAny_inv J hord hs hd _ _ _ _ (by simp) (by simp) ?_)
 have e:(fun j=>(Array.replicate ops.size false).getD j false)=fun _=>false:=by
  funext j
  rw [Array.getD_eq_getD_getElem?]
  by_cases h:j < ops.size <;> simp [h]
 rw [e]
 exact h0
end
end Go.Proofs.Ytggmjiddadjilaj
