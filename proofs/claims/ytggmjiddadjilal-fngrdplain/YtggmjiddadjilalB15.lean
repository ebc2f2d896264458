/-
  PROVED HERE: what is known of a table that was drawn. Also: the grid of a drawn table, and that its cells are few and small where the table is ok. Also: what the program's BrdOk answers at every border. Also: what the program's CellOk answers at every cell whose text is a Go string. Also: what the program's columnOk answers at every column. Also: what the program's columnsOk, rowOk, rowsOk and partsOk answer at a table that lies in memory; nothing that was in memory is turned. Also: what the program's TblOk answers at a table that lies in memory: one Bool; nothing that was in memory is turned.
-/
import Derived.Test.YtggmjiddadjilalB14
import Derived.Test.YtggmjiddadjilalB7
import Derived.Test.YtggmjiddadjilalB6
namespace Go.Proofs.Ytggmjiddadjilal
open Go.RowKit

/-- what is known of a table that was drawn -/
structure Drawn (t : T) : Prop where
  rows : t.rows.length ≤ 9
  cols : t.cols.length ≤ 9
  head : -1 ≤ t.head ∧ t.head ≤ 9
  foot : -1 ≤ t.foot ∧ t.foot ≤ 9
  gap : -1 ≤ t.gap ∧ t.gap ≤ 4
  cells : ∀ r ∈ t.rows, ∀ x ∈ r.cells, Cx x
  few : ∃ k, ∀ i, (t.rows.getD i dR).cells.length ≤ if i = k then 5 else 4
theorem rows_at {w : World} {base : Nat} {v : Value} {ur : List (Value × R)} (h1 : w.ownsRow base 51 2 v ur.length (ur.flatMap rowVs)) (h2 : ∀ p ∈ ur, OwnC w base p.1 p.2.cells) (hs : ∀ p ∈ ur, ∀ x ∈ p.2.cells, Cx x) : RowsAt w base v (ur.map (·.2)) := by
  have hl : (ur.map (·.2)).length = ur.length := by simp
  rcases h1.2 with ⟨rfl, hn⟩ | ⟨g, cap, cur, rfl, hg, hc, h3, h4, _⟩
  · exact ⟨none, 0, by rw [hl, hn], by rw [hl]; omega, by unfold maxLen; omega, fun i hi => by rw [hl] at hi; omega⟩
  · refine ⟨_, cap, by rw [hl], by rw [hl]; exact h3, h4, fun i hi => ⟨g, 0, rfl, (Array.getElem?_eq_some_iff.1 hc).1, hg, ?_⟩⟩
    rw [hl] at hi
    have hx : ∀ j, j < 2 → w.cell? ⟨g, i * 2 + j, none⟩ = (rowVs ur[i])[j]? := fun j hj => by
      have e := flat_get rowVs 2 (fun _ => rfl) ur i hi j hj
      rw [row_cell h1 (u := (rowVs ur[i])[j]'(by show j < 2; exact hj)) (by rw [e]; simp)]
      simp
    have hm := List.getElem_mem hi
    dsimp only
    rw [getD_get dR (by rw [hl]; exact hi), Nat.zero_add, List.getElem_map]
    exact ⟨ur[i].1, hx 0 (by omega), hx 1 (by omega), (h2 _ hm).at (fun x hx => (hs _ hm x hx).1)⟩
/-- what l20Table hands over, in numbers -/
theorem drawn_of {t : T} {ur : List (Value × R)} (h : tblB t = true) (e : t.rows = ur.map (·.2)) : (1 ≤ ur.length ∧ ur.length ≤ 8) ∧ t.cols.length ≤ 8 ∧ (0 ≤ t.head ∧ t.head ≤ 8) ∧ (0 ≤ t.foot ∧ t.foot ≤ 8) ∧ 0 ≤ t.gap ∧ t.gap ≤ 3 := by
  have hl : t.rows.length = ur.length := by rw [e]; simp
  simp only [tblB, partsB, inB, colsB, Bool.and_eq_true, decide_eq_true_eq] at h
  omega
theorem few_of {ur : List (Value × R)} (hs : ∀ p ∈ ur, p.2.cells.length ≤ 4 ∧ ∀ x ∈ p.2.cells, Cx x) : ∃ k, ∀ i, ((ur.map (·.2)).getD i dR).cells.length ≤ if i = k then 5 else 4 := by
  refine ⟨0, fun i => ?_⟩
  have h4 : ((ur.map (·.2)).getD i dR).cells.length ≤ 4 := by
    by_cases hi : i < ur.length
    · rw [getD_get dR (by simpa using hi), List.getElem_map]
      exact (hs _ (List.getElem_mem hi)).1
    · simp [List.getD, hi, dR]
  split <;> omega
theorem cells_of {ur : List (Value × R)} (hs : ∀ p ∈ ur, p.2.cells.length ≤ 4 ∧ ∀ x ∈ p.2.cells, Cx x) : ∀ r ∈ ur.map (·.2), ∀ x ∈ r.cells, Cx x := fun r hr x hx => by
  obtain ⟨p, hp, rfl⟩ := List.mem_map.1 hr
  exact (hs p hp).2 x hx
end Go.Proofs.Ytggmjiddadjilal
namespace Go.Proofs.Ytggmjiddadjilal
open Go.RowKit

/-- the grid of a drawn table -/
def gOf (t : T) : G := if tblB t = true then ⟨t.rows.length, colsOf (max 1 (t.cols.length : Int)) (gridOf t), gridOf t⟩ else ⟨0, 0, []⟩
theorem low_of {t : T} (h : tblB t = true) (hD : Drawn t) : Low t := by
  have hb := tblB_bounds h
  have h2 := h
  simp only [tblB, partsB, inB, Bool.and_eq_true, decide_eq_true_eq, List.all_eq_true, rowB, cB, cellOkB] at h2
  refine ⟨hb.1.2, fun r hr x hx => ?_, hD.few, ⟨hb.2.1.1, hb.2.1.2⟩, ⟨hb.2.2.1, by omega⟩⟩
  have h3 := (h2.2.2.2.2 r hr).2 x hx
  have h4 := hD.cells r hr x hx
  exact ⟨by omega, by have := h4.2; omega, by have := h4.2; omega⟩
end Go.Proofs.Ytggmjiddadjilal
namespace Go.Proofs.Ytggmjiddadjilal
open Go.RowKit

set_option maxRecDepth 100000 in
set_option maxHeartbeats 400000 in
theorem implBrdOk (a b : Int) (w : World) :
    Calls Try.prog 12 #[.agg #[.int .i64 a, .int .i64 b]] w fun e w' => e = .returned (.bool (brdOkB a b)) ∧ w' = w.alloc (.cells #[.int .i64 a, .int .i64 b] 27) := by
  by_cases h0 : a = 0
  · subst h0
    go_enter Try.func12, Try.ntmps12
    go_wp2
    go_ret
    exact ⟨retB (brd_zero b).symm, rfl⟩
  by_cases h4 : a = 4
  · subst h4
    go_enter Try.func12, Try.ntmps12
    go_wp2
    go_ret
    exact ⟨retB (brd_four b).symm, rfl⟩
  by_cases h1 : a = 1
  · subst h1
    go_enter Try.func12, Try.ntmps12
    go_wp2_with (go_at_call 35; refine (within_any _ _ _ _).mono ?_; rintro e w' ⟨rfl, rfl⟩)
    go_ret
    exact ⟨retB (brd_seen b (by omega) (by omega)).symm, rfl⟩
  by_cases h2 : a = 2
  · subst h2
    go_enter Try.func12, Try.ntmps12
    go_wp2_with (go_at_call 35; refine (within_any _ _ _ _).mono ?_; rintro e w' ⟨rfl, rfl⟩)
    go_ret
    exact ⟨retB (brd_seen b (by omega) (by omega)).symm, rfl⟩
  by_cases h3 : a = 3
  · subst h3
    go_enter Try.func12, Try.ntmps12
    go_wp2_with (go_at_call 35; refine (within_any _ _ _ _).mono ?_; rintro e w' ⟨rfl, rfl⟩)
    go_ret
    exact ⟨retB (brd_seen b (by omega) (by omega)).symm, rfl⟩
  have e0 : (a == 0) = false := beq_eq_false_iff_ne.2 h0
  have e1 : (a == 1) = false := beq_eq_false_iff_ne.2 h1
  have e2 : (a == 2) = false := beq_eq_false_iff_ne.2 h2
  have e3 : (a == 3) = false := beq_eq_false_iff_ne.2 h3
  have e4 : (a == 4) = false := beq_eq_false_iff_ne.2 h4
  have HB : Hid (brdOkB a b = false) := brd_other b h0 h4 (by omega)
  clear h0 h1 h2 h3 h4
  go_enter Try.func12, Try.ntmps12
  go_wp2
  go_ret
  exact ⟨retB HB.out.symm, rfl⟩
end Go.Proofs.Ytggmjiddadjilal
namespace Go.Proofs.Ytggmjiddadjilal
open Go.RowKit

set_option maxRecDepth 100000 in
set_option maxHeartbeats 1000000 in
theorem implCellOk (s : ByteArray) (c r a1 b1 a2 b2 a3 b3 a4 b4 : Int) (w : World) (hs : s.size ≤ maxLen) :
    Calls Try.prog 13 #[.agg #[.string s, .int .i64 c, .int .i64 r, .int .i64 a1, .int .i64 b1, .int .i64 a2, .int .i64 b2, .int .i64 a3, .int .i64 b3, .int .i64 a4, .int .i64 b4]] w fun e w' => e = .returned (.bool (cellOkB s c r a1 b1 a2 b2 a3 b3 a4 b4)) ∧ Below w.heap.size w w' := by
  cases h0 : txtOkB s
  ·
    as_aux_lemma =>
      have HB : Hid (cellOkB s c r a1 b1 a2 b2 a3 b3 a4 b4 = false) := Hid.mk (by simp [cellOkB, h0])
      go_enter Try.func13, Try.ntmps13
      go_wp2_with (first | (go_at_call 9; refine (implTxtOk _ _ hs).mono ?_; rintro e w' ⟨rfl, rfl⟩) | (go_at_call 35; refine (within_any _ _ _ _).mono ?_; rintro e w' ⟨rfl, rfl⟩) | (go_at_call 12; refine (implBrdOk _ _ _).mono ?_; rintro e w' ⟨rfl, rfl⟩))
      go_ret
      exact ⟨retB HB.out.symm, by repeat (first | exact Below.refl _ _ | apply k_alloc)⟩
  cases h1 : inB c 1 4
  ·
    as_aux_lemma =>
      have HB : Hid (cellOkB s c r a1 b1 a2 b2 a3 b3 a4 b4 = false) := Hid.mk (by simp [cellOkB, h0, h1])
      go_enter Try.func13, Try.ntmps13
      go_wp2_with (first | (go_at_call 9; refine (implTxtOk _ _ hs).mono ?_; rintro e w' ⟨rfl, rfl⟩) | (go_at_call 35; refine (within_any _ _ _ _).mono ?_; rintro e w' ⟨rfl, rfl⟩) | (go_at_call 12; refine (implBrdOk _ _ _).mono ?_; rintro e w' ⟨rfl, rfl⟩))
      go_ret
      exact ⟨retB HB.out.symm, by repeat (first | exact Below.refl _ _ | apply k_alloc)⟩
  cases h2 : inB r 1 4
  ·
    as_aux_lemma =>
      have HB : Hid (cellOkB s c r a1 b1 a2 b2 a3 b3 a4 b4 = false) := Hid.mk (by simp [cellOkB, h0, h1, h2])
      go_enter Try.func13, Try.ntmps13
      go_wp2_with (first | (go_at_call 9; refine (implTxtOk _ _ hs).mono ?_; rintro e w' ⟨rfl, rfl⟩) | (go_at_call 35; refine (within_any _ _ _ _).mono ?_; rintro e w' ⟨rfl, rfl⟩) | (go_at_call 12; refine (implBrdOk _ _ _).mono ?_; rintro e w' ⟨rfl, rfl⟩))
      go_ret
      exact ⟨retB HB.out.symm, by repeat (first | exact Below.refl _ _ | apply k_alloc)⟩
  cases h3 : brdOkB a1 b1
  ·
    as_aux_lemma =>
      have HB : Hid (cellOkB s c r a1 b1 a2 b2 a3 b3 a4 b4 = false) := Hid.mk (by simp [cellOkB, h0, h1, h2, h3])
      go_enter Try.func13, Try.ntmps13
      go_wp2_with (first | (go_at_call 9; refine (implTxtOk _ _ hs).mono ?_; rintro e w' ⟨rfl, rfl⟩) | (go_at_call 35; refine (within_any _ _ _ _).mono ?_; rintro e w' ⟨rfl, rfl⟩) | (go_at_call 12; refine (implBrdOk _ _ _).mono ?_; rintro e w' ⟨rfl, rfl⟩))
      go_ret
      exact ⟨retB HB.out.symm, by repeat (first | exact Below.refl _ _ | apply k_alloc)⟩
  cases h4 : brdOkB a2 b2
  ·
    as_aux_lemma =>
      have HB : Hid (cellOkB s c r a1 b1 a2 b2 a3 b3 a4 b4 = false) := Hid.mk (by simp [cellOkB, h0, h1, h2, h3, h4])
      go_enter Try.func13, Try.ntmps13
      go_wp2_with (first | (go_at_call 9; refine (implTxtOk _ _ hs).mono ?_; rintro e w' ⟨rfl, rfl⟩) | (go_at_call 35; refine (within_any _ _ _ _).mono ?_; rintro e w' ⟨rfl, rfl⟩) | (go_at_call 12; refine (implBrdOk _ _ _).mono ?_; rintro e w' ⟨rfl, rfl⟩))
      go_ret
      exact ⟨retB HB.out.symm, by repeat (first | exact Below.refl _ _ | apply k_alloc)⟩
  cases h5 : brdOkB a3 b3
  ·
    as_aux_lemma =>
      have HB : Hid (cellOkB s c r a1 b1 a2 b2 a3 b3 a4 b4 = false) := Hid.mk (by simp [cellOkB, h0, h1, h2, h3, h4, h5])
      go_enter Try.func13, Try.ntmps13
      go_wp2_with (first | (go_at_call 9; refine (implTxtOk _ _ hs).mono ?_; rintro e w' ⟨rfl, rfl⟩) | (go_at_call 35; refine (within_any _ _ _ _).mono ?_; rintro e w' ⟨rfl, rfl⟩) | (go_at_call 12; refine (implBrdOk _ _ _).mono ?_; rintro e w' ⟨rfl, rfl⟩))
      go_ret
      exact ⟨retB HB.out.symm, by repeat (first | exact Below.refl _ _ | apply k_alloc)⟩
  as_aux_lemma =>
    have HB : Hid (cellOkB s c r a1 b1 a2 b2 a3 b3 a4 b4 = brdOkB a4 b4) := Hid.mk (by simp [cellOkB, h0, h1, h2, h3, h4, h5])
    go_enter Try.func13, Try.ntmps13
    go_wp2_with (first | (go_at_call 9; refine (implTxtOk _ _ hs).mono ?_; rintro e w' ⟨rfl, rfl⟩) | (go_at_call 35; refine (within_any _ _ _ _).mono ?_; rintro e w' ⟨rfl, rfl⟩) | (go_at_call 12; refine (implBrdOk _ _ _).mono ?_; rintro e w' ⟨rfl, rfl⟩))
    go_ret
    exact ⟨retB HB.out.symm, by repeat (first | exact Below.refl _ _ | apply k_alloc)⟩
end Go.Proofs.Ytggmjiddadjilal
namespace Go.Proofs.Ytggmjiddadjilal
open Go.RowKit

theorem ta_auto_fixed (n : Int) (w : World) : (Instr.typeAssert (.iface 117 (.agg #[.int .i64 n])) 109 119 true).run Try.prog w = .ok (.tuple #[.agg #[.int .i64 0], .bool false]) w := by kernel_rfl
theorem ta_auto_part (n : Int) (w : World) : (Instr.typeAssert (.iface 117 (.agg #[.int .i64 n])) 109 121 true).run Try.prog w = .ok (.tuple #[.agg #[.int .i64 0], .bool false]) w := by kernel_rfl
theorem ta_fixed_fixed (n : Int) (w : World) : (Instr.typeAssert (.iface 119 (.agg #[.int .i64 n])) 109 119 true).run Try.prog w = .ok (.tuple #[.agg #[.int .i64 n], .bool true]) w := by kernel_rfl
theorem ta_fixed_part (n : Int) (w : World) : (Instr.typeAssert (.iface 119 (.agg #[.int .i64 n])) 109 121 true).run Try.prog w = .ok (.tuple #[.agg #[.int .i64 0], .bool false]) w := by kernel_rfl
theorem ta_part_fixed (n : Int) (w : World) : (Instr.typeAssert (.iface 121 (.agg #[.int .i64 n])) 109 119 true).run Try.prog w = .ok (.tuple #[.agg #[.int .i64 0], .bool false]) w := by kernel_rfl
theorem ta_part_part (n : Int) (w : World) : (Instr.typeAssert (.iface 121 (.agg #[.int .i64 n])) 109 121 true).run Try.prog w = .ok (.tuple #[.agg #[.int .i64 n], .bool true]) w := by kernel_rfl
theorem me_auto (n : Int) (w : World) : (method 239 117 (.agg #[.int .i64 n]) "loop.example/panework/impl.number").run Try.prog w = .ok (96, .agg #[.int .i64 n]) w := by kernel_rfl
theorem me_fixed (n : Int) (w : World) : (method 239 119 (.agg #[.int .i64 n]) "loop.example/panework/impl.number").run Try.prog w = .ok (97, .agg #[.int .i64 n]) w := by kernel_rfl
theorem me_part (n : Int) (w : World) : (method 239 121 (.agg #[.int .i64 n]) "loop.example/panework/impl.number").run Try.prog w = .ok (98, .agg #[.int .i64 n]) w := by kernel_rfl

set_option maxRecDepth 100000 in
set_option maxHeartbeats 1000000 in
theorem implColumnOk (k n : Int) (w : World) :
    Calls Try.prog 69 #[.agg #[.int .i64 k, .int .i64 n]] w fun e w' => e = .returned (.bool (colB k n)) ∧ Below w.heap.size w w' := by
  by_cases h0 : k = 0
  · subst h0
    have t1 := fun w => ta_auto_fixed n w
    have t2 := fun w => ta_auto_part n w
    have t3 := fun w => me_auto n w
    have HC := Hid.intro (colB_0 n)
    go_enter Try.func69, Try.ntmps69
    go_wp2_with (first | (go_at_call 35; refine (within_any _ _ _ _).mono ?_; rintro e w' ⟨rfl, rfl⟩) | go_in)
    go_ret
    exact ⟨retB HC.out.symm, by repeat (first | refine k_alloc ?_ _ | exact Below.refl _ _)⟩
  by_cases h1 : k = 1
  · subst h1
    have t1 := fun w => ta_fixed_fixed n w
    have t3 := fun w => me_fixed n w
    have HC := Hid.intro (colB_1 n)
    go_enter Try.func69, Try.ntmps69
    go_wp2_with (first | (go_at_call 35; refine (within_any _ _ _ _).mono ?_; rintro e w' ⟨rfl, rfl⟩) | go_in)
    go_ret
    exact ⟨retB HC.out.symm, by repeat (first | refine k_alloc ?_ _ | exact Below.refl _ _)⟩
  by_cases h2 : k = 2
  · subst h2
    have t1 := fun w => ta_part_fixed n w
    have t2 := fun w => ta_part_part n w
    have t3 := fun w => me_part n w
    have HC := Hid.intro (colB_2 n)
    go_enter Try.func69, Try.ntmps69
    go_wp2_with (first | (go_at_call 35; refine (within_any _ _ _ _).mono ?_; rintro e w' ⟨rfl, rfl⟩) | go_in)
    go_ret
    exact ⟨retB HC.out.symm, by repeat (first | refine k_alloc ?_ _ | exact Below.refl _ _)⟩
  have e0 : (k == 0) = false := beq_eq_false_iff_ne.2 h0
  have e1 : (k == 1) = false := beq_eq_false_iff_ne.2 h1
  have e2 : (k == 2) = false := beq_eq_false_iff_ne.2 h2
  have HC := Hid.intro (colB_no n h0 h1 h2)
  clear h0 h1 h2
  go_enter Try.func69, Try.ntmps69
  go_wp2
  go_ret
  exact ⟨retB HC.out.symm, by repeat (first | refine k_alloc ?_ _ | exact Below.refl _ _)⟩
end Go.Proofs.Ytggmjiddadjilal
namespace Go.Proofs.Ytggmjiddadjilal
open Go.RowKit

set_option maxRecDepth 100000 in
set_option maxHeartbeats 1000000 in
theorem columnsOk_any (v : Value) (ps : List (Int × Int)) (w : World) {z : Nat} (h : ColsAt w z v ps) :
    Calls Try.prog 52 #[v] w fun e w' => e = .returned (.bool (colsB ps)) ∧ Below w.heap.size w w' := by
  obtain ⟨a, cap, rfl, hlen⟩ := At.form h
  unfold maxLen at hlen
  have H := Hid.intro h
  clear h
  by_cases h8 : (8 : Int) < (ps.length : Int)
  · have HF : Hid (colsB ps = false) := Hid.intro (by have : ¬ ps.length ≤ 8 := by omega
                                                      simp [colsB, this])
    go_enter Try.func52, Try.ntmps52
    go_wp2
    go_ret
    exact ⟨retB HF.out.symm, Below.refl _ _⟩
  · have h8' : ps.length ≤ 8 := by omega
    go_enter Try.func52, Try.ntmps52
    go_wp2_with fail
    go_loopw [4, 10] (fun _ i W => ∃ k : Nat, k ≤ ps.length ∧ i = .int .i64 k ∧ Hid (∀ j, j < k → (fun p : Int × Int => colB p.1 p.2) (ps.getD j (0, 0)) = true) ∧ Hid (Below w.heap.size w W)) (fun _ i _ => ps.length - (intOf i).toNat)
    case atStart => exact ⟨0, Nat.zero_le _, rfl, fun j hj => absurd hj (Nat.not_lt_zero _), Below.refl _ _⟩
    case round =>
      obtain ⟨k, hk, rfl, HA, HB⟩ := hrel
      by_cases hlt : k < ps.length
      · obtain ⟨b, off, cap', e', hc1, hc2, hbl, hx0, hx1⟩ := At.get (H.out.kept HB.out) hlt
        simp only [Value.slice.injEq, true_and] at e'
        obtain ⟨rfl, rfl⟩ := e'
        unfold maxLen at hc2
        cases hv : colB (ps.getD k (0, 0)).1 (ps.getD k (0, 0)).2
        · have HF : Hid (colsB ps = false) := Hid.intro (by rw [colsB, all_false (0, 0) (fun p : Int × Int => colB p.1 p.2) ps k hlt hv, Bool.and_false])
          generalize ps.getD k (0, 0) = x at hx0 hx1 hv
          go_wp2_with fail
          refine (implColumnOk _ _ _).mono ?_
          rw [hv]
          rintro e w1 ⟨rfl, hb1⟩
          have K1 := Hid.intro (k_trans (k_alloc HB.out _) hb1)
          clear hb1
          go_wp2
          go_ret
          exact ⟨retB HF.out.symm, K1.out⟩
        · have HN := Hid.intro (next_true (p := fun p : Int × Int => colB p.1 p.2) HA.out hv)
          generalize ps.getD k (0, 0) = x at hx0 hx1 hv
          go_wp2_with fail
          refine (implColumnOk _ _ _).mono ?_
          rw [hv]
          rintro e w1 ⟨rfl, hb1⟩
          have K1 := Hid.intro (k_trans (k_alloc HB.out _) hb1)
          clear hb1
          go_wp2
          go_roundw
          case rel => exact ⟨k + 1, by omega, by go_num, HN, K1⟩
          case measure => simp [intOf]; omega
      · obtain rfl : k = ps.length := by omega
        have HF : Hid (colsB ps = true) := Hid.intro (by rw [colsB, all_true (0, 0) (fun p : Int × Int => colB p.1 p.2) ps HA.out]; simp [h8'])
        go_wp2
        go_ret
        exact ⟨retB HF.out.symm, HB.out⟩

set_option maxRecDepth 100000 in
set_option maxHeartbeats 1000000 in
theorem rowOk_any (u : Value) (r : R) (w : World) {z : Nat} (h : CellsAt w z u r.cells) :
    Calls Try.prog 70 #[.agg #[u, .bool r.whole]] w fun e w' => e = .returned (.bool (rowB r)) ∧ Below w.heap.size w w' := by
  obtain ⟨a, cap, rfl, hlen⟩ := At.form h
  unfold maxLen at hlen
  have H := Hid.intro h
  clear h
  by_cases h8 : (5 : Int) < (r.cells.length : Int)
  · have HF : Hid (rowB r = false) := Hid.intro (by have : ¬ r.cells.length ≤ 5 := by omega
                                                    simp [rowB, this])
    go_enter Try.func70, Try.ntmps70
    go_wp2
    go_ret
    exact ⟨retB HF.out.symm, k_alloc (Below.refl _ _) _⟩
  · have h8' : r.cells.length ≤ 5 := by omega
    go_enter Try.func70, Try.ntmps70
    go_wp2_with fail
    go_loopw [4, 12] (fun _ i W => ∃ k : Nat, k ≤ r.cells.length ∧ i = .int .i64 k ∧ Hid (∀ j, j < k → cB (r.cells.getD j dC) = true) ∧ Hid (Below w.heap.size w W)) (fun _ i _ => r.cells.length - (intOf i).toNat)
    case atStart => exact ⟨0, Nat.zero_le _, rfl, fun j hj => absurd hj (Nat.not_lt_zero _), k_alloc (Below.refl _ _) _⟩
    case round =>
      obtain ⟨k, hk, rfl, HA, HB⟩ := hrel
      by_cases hlt : k < r.cells.length
      · obtain ⟨b, off, cap', e', hc1, hc2, hbl, hx, hs⟩ := At.get (H.out.kept HB.out) hlt
        simp only [Value.slice.injEq, true_and] at e'
        obtain ⟨rfl, rfl⟩ := e'
        unfold maxLen at hc2
        have hs' := Hid.intro hs
        cases hv : cB (r.cells.getD k dC)
        · have HF : Hid (rowB r = false) := Hid.intro (by rw [rowB, all_false dC cB r.cells k hlt hv, Bool.and_false])
          generalize r.cells.getD k dC = x at hx hs' hv
          obtain ⟨x0, x1, x2, x3, x4, x5, x6, x7, x8, x9, x10⟩ := hx
          clear hs
          go_wp2_with fail
          refine (implCellOk _ _ _ _ _ _ _ _ _ _ _ _ hs'.out).mono ?_
          rw [show cellOkB x.s x.c x.r x.a1 x.b1 x.a2 x.b2 x.a3 x.b3 x.a4 x.b4 = false from hv]
          rintro e w1 ⟨rfl, hb1⟩
          have K1 := Hid.intro (k_trans (k_alloc HB.out _) hb1)
          clear hb1
          go_wp2
          go_ret
          exact ⟨retB HF.out.symm, K1.out⟩
        · have HN := Hid.intro (next_true HA.out hv)
          generalize r.cells.getD k dC = x at hx hs' hv
          obtain ⟨x0, x1, x2, x3, x4, x5, x6, x7, x8, x9, x10⟩ := hx
          clear hs
          go_wp2_with fail
          refine (implCellOk _ _ _ _ _ _ _ _ _ _ _ _ hs'.out).mono ?_
          rw [show cellOkB x.s x.c x.r x.a1 x.b1 x.a2 x.b2 x.a3 x.b3 x.a4 x.b4 = true from hv]
          rintro e w1 ⟨rfl, hb1⟩
          have K1 := Hid.intro (k_trans (k_alloc HB.out _) hb1)
          clear hb1
          go_wp2
          go_roundw
          case rel => exact ⟨k + 1, by omega, by go_num, HN, K1⟩
          case measure => simp [intOf]; omega
      · obtain rfl : k = r.cells.length := by omega
        have HF : Hid (rowB r = true) := Hid.intro (by rw [rowB, all_true dC cB r.cells HA.out]; simp [h8'])
        go_wp2
        go_ret
        exact ⟨retB HF.out.symm, HB.out⟩

set_option maxRecDepth 100000 in
set_option maxHeartbeats 1000000 in
theorem rowsOk_any (v : Value) (rs : List R) (w : World) {z : Nat} (h : RowsAt w z v rs) :
    Calls Try.prog 53 #[v] w fun e w' => e = .returned (.bool (rs.all rowB)) ∧ Below w.heap.size w w' := by
  obtain ⟨a, cap, rfl, hlen⟩ := At.form h
  unfold maxLen at hlen
  have H := Hid.intro h
  clear h
  go_enter Try.func53, Try.ntmps53
  go_wp2_with fail
  go_loopw [4, 7] (fun _ i W => ∃ k : Nat, k ≤ rs.length ∧ i = .int .i64 k ∧ Hid (∀ j, j < k → rowB (rs.getD j dR) = true) ∧ Hid (Below w.heap.size w W)) (fun _ i _ => rs.length - (intOf i).toNat)
  case atStart => exact ⟨0, Nat.zero_le _, rfl, fun j hj => absurd hj (Nat.not_lt_zero _), Below.refl _ _⟩
  case round =>
    obtain ⟨k, hk, rfl, HA, HB⟩ := hrel
    by_cases hlt : k < rs.length
    · obtain ⟨b, off, cap', e', hc1, hc2, hbl, u, hx0, hx1, hx⟩ := At.get (H.out.kept HB.out) hlt
      simp only [Value.slice.injEq, true_and] at e'
      obtain ⟨rfl, rfl⟩ := e'
      unfold maxLen at hc2
      obtain ⟨ua, ucap, rfl, _⟩ := At.form hx
      have HX := Hid.intro hx
      clear hx
      cases hv : rowB (rs.getD k dR)
      · have HF : Hid (rs.all rowB = false) := Hid.intro (all_false dR rowB rs k hlt hv)
        generalize rs.getD k dR = x at hx0 hx1 hv HX
        go_wp2_with fail
        refine (rowOk_any _ x _ (HX.out.kept (k_alloc (Below.refl _ _) _))).mono ?_
        rw [hv]
        rintro e w1 ⟨rfl, hb1⟩
        have K1 := Hid.intro (k_trans (k_alloc HB.out _) hb1)
        clear hb1
        go_wp2
        go_ret
        exact ⟨retB HF.out.symm, K1.out⟩
      · have HN := Hid.intro (next_true HA.out hv)
        generalize rs.getD k dR = x at hx0 hx1 hv HX
        go_wp2_with fail
        refine (rowOk_any _ x _ (HX.out.kept (k_alloc (Below.refl _ _) _))).mono ?_
        rw [hv]
        rintro e w1 ⟨rfl, hb1⟩
        have K1 := Hid.intro (k_trans (k_alloc HB.out _) hb1)
        clear hb1
        go_wp2
        go_roundw
        case rel => exact ⟨k + 1, by omega, by go_num, HN, K1⟩
        case measure => simp [intOf]; omega
    · obtain rfl : k = rs.length := by omega
      have HF : Hid (rs.all rowB = true) := Hid.intro (all_true dR rowB rs HA.out)
      go_wp2
      go_ret
      exact ⟨retB HF.out.symm, HB.out⟩

set_option maxRecDepth 100000 in
set_option maxHeartbeats 1000000 in
theorem partsOk_any (vc : Value) (ar : Option Addr) (n cr : Nat) (hd ft gp : Int) (a : Option Addr) (m c : Nat) (hvc : vc = .slice a m c) (hn : n ≤ 4611686018427387903) (w : World) :
    Calls Try.prog 51 #[.agg #[vc, .int .i64 hd, .int .i64 ft, .slice ar n cr, .int .i64 gp]] w fun e w' => e = .returned (.bool (partsB n hd ft)) ∧ Below w.heap.size w w' := by
  subst hvc
  cases h1 : inB hd 0 n
  · have HF : Hid (partsB n hd ft = false) := Hid.intro (by rw [partsB, h1]; rfl)
    go_enter Try.func51, Try.ntmps51
    go_wp2_with (go_at_call 35; refine (within_any _ _ _ _).mono ?_; rintro e w' ⟨rfl, rfl⟩)
    go_ret
    exact ⟨retB HF.out.symm, k_alloc (Below.refl _ _) _⟩
  · have h1' : 0 ≤ hd ∧ hd ≤ n := of_decide_eq_true h1
    obtain ⟨g1, g2⟩ := h1'
    have HF : Hid (partsB n hd ft = inB ft 0 (n - hd)) := Hid.intro (by rw [partsB, h1]; rfl)
    go_enter Try.func51, Try.ntmps51
    go_wp2_with (go_at_call 35; refine (within_any _ _ _ _).mono ?_; rintro e w' ⟨rfl, rfl⟩)
    go_ret
    exact ⟨retB HF.out.symm, k_alloc (Below.refl _ _) _⟩
end Go.Proofs.Ytggmjiddadjilal
namespace Go.Proofs.Ytggmjiddadjilal
open Go.RowKit

set_option maxRecDepth 100000 in
set_option maxHeartbeats 2000000 in
theorem implTblOk (ac ar : Option Addr) (cc cr : Nat) (t : T) (w : World) {z : Nat} (hc : ColsAt w z (.slice ac t.cols.length cc) t.cols) (hr : RowsAt w z (.slice ar t.rows.length cr) t.rows) :
    Calls Try.prog 27 #[.agg #[.slice ac t.cols.length cc, .int .i64 t.head, .int .i64 t.foot, .slice ar t.rows.length cr, .int .i64 t.gap]] w fun e w' => e = .returned (.bool (tblB t)) ∧ Below w.heap.size w w' := by
  have HC := Hid.intro hc
  have HR := Hid.intro hr
  clear hc hr
  have K0 := Hid.intro (k_alloc (Below.refl w.heap.size w) (.cells #[.slice ac t.cols.length cc, .int .i64 t.head, .int .i64 t.foot, .slice ar t.rows.length cr, .int .i64 t.gap] 37))
  cases h0 : inB t.rows.length 1 8
  · skip
    have HF : Hid (tblB t = false) := Hid.intro (by simp [tblB, h0])
    go_enter Try.func27, Try.ntmps27
    go_wp2_with (go_at_call 35; refine (within_any _ _ _ _).mono ?_; rintro e w' ⟨rfl, rfl⟩)
    go_ret
    exact ⟨retB HF.out.symm, k_alloc (Below.refl _ _) _⟩
  cases h1 : partsB t.rows.length t.head t.foot
  · skip
    have HF : Hid (tblB t = false) := Hid.intro (by simp [tblB, h0, h1])
    have hN : 0 ≤ ((t.rows.length : Nat) : Int) - 1 ∧ ((t.rows.length : Nat) : Int) ≤ 8 := by have := of_decide_eq_true h0; omega
    go_enter Try.func27, Try.ntmps27
    go_wp2_with (go_at_call 35; refine (within_any _ _ _ _).mono ?_; rintro e w' ⟨rfl, rfl⟩)
    refine (partsOk_any _ ar t.rows.length cr t.head t.foot t.gap ac t.cols.length cc rfl (by omega) _).mono ?_
    rw [h1]
    rintro e w1 ⟨rfl, hb1⟩
    obtain ⟨m0, m1, m2, m3, m4⟩ := fiveO ((hb1.block w.heap.size (by simp)).trans (newestO _ _))
    have K1 := Hid.intro (k_trans K0.out hb1)
    have L1 := Hid.intro hb1
    clear hb1
    go_wp2_with (go_at_call 35; refine (within_any _ _ _ _).mono ?_; rintro e w' ⟨rfl, rfl⟩)
    go_ret
    exact ⟨retB HF.out.symm, K1.out⟩
  cases h2 : inB t.gap 0 3
  · skip
    have HF : Hid (tblB t = false) := Hid.intro (by simp [tblB, h0, h1, h2])
    have hN : 0 ≤ ((t.rows.length : Nat) : Int) - 1 ∧ ((t.rows.length : Nat) : Int) ≤ 8 := by have := of_decide_eq_true h0; omega
    go_enter Try.func27, Try.ntmps27
    go_wp2_with (go_at_call 35; refine (within_any _ _ _ _).mono ?_; rintro e w' ⟨rfl, rfl⟩)
    refine (partsOk_any _ ar t.rows.length cr t.head t.foot t.gap ac t.cols.length cc rfl (by omega) _).mono ?_
    rw [h1]
    rintro e w1 ⟨rfl, hb1⟩
    obtain ⟨m0, m1, m2, m3, m4⟩ := fiveO ((hb1.block w.heap.size (by simp)).trans (newestO _ _))
    have K1 := Hid.intro (k_trans K0.out hb1)
    have L1 := Hid.intro hb1
    clear hb1
    go_wp2_with (go_at_call 35; refine (within_any _ _ _ _).mono ?_; rintro e w' ⟨rfl, rfl⟩)
    go_ret
    exact ⟨retB HF.out.symm, K1.out⟩
  cases h3 : colsB t.cols
  · skip
    have HF : Hid (tblB t = false) := Hid.intro (by simp [tblB, h0, h1, h2, h3])
    have hN : 0 ≤ ((t.rows.length : Nat) : Int) - 1 ∧ ((t.rows.length : Nat) : Int) ≤ 8 := by have := of_decide_eq_true h0; omega
    go_enter Try.func27, Try.ntmps27
    go_wp2_with (go_at_call 35; refine (within_any _ _ _ _).mono ?_; rintro e w' ⟨rfl, rfl⟩)
    refine (partsOk_any _ ar t.rows.length cr t.head t.foot t.gap ac t.cols.length cc rfl (by omega) _).mono ?_
    rw [h1]
    rintro e w1 ⟨rfl, hb1⟩
    obtain ⟨m0, m1, m2, m3, m4⟩ := fiveO ((hb1.block w.heap.size (by simp)).trans (newestO _ _))
    have K1 := Hid.intro (k_trans K0.out hb1)
    have L1 := Hid.intro hb1
    clear hb1
    go_wp2_with (go_at_call 35; refine (within_any _ _ _ _).mono ?_; rintro e w' ⟨rfl, rfl⟩)
    refine (columnsOk_any _ t.cols _ (HC.out.kept K1.out)).mono ?_
    rw [h3]
    rintro e w2 ⟨rfl, hb2⟩
    obtain ⟨n0, n1, n2, n3, n4⟩ := fiveO (((k_trans L1.out hb2).block w.heap.size (by simp)).trans (newestO _ _))
    have K2 := Hid.intro (k_trans K1.out hb2)
    clear hb2
    go_wp2
    go_ret
    exact ⟨retB HF.out.symm, K2.out⟩
  have HF : Hid (tblB t = t.rows.all rowB) := Hid.intro (by simp [tblB, h0, h1, h2, h3])
  have hN : 0 ≤ ((t.rows.length : Nat) : Int) - 1 ∧ ((t.rows.length : Nat) : Int) ≤ 8 := by have := of_decide_eq_true h0; omega
  go_enter Try.func27, Try.ntmps27
  go_wp2_with (go_at_call 35; refine (within_any _ _ _ _).mono ?_; rintro e w' ⟨rfl, rfl⟩)
  refine (partsOk_any _ ar t.rows.length cr t.head t.foot t.gap ac t.cols.length cc rfl (by omega) _).mono ?_
  rw [h1]
  rintro e w1 ⟨rfl, hb1⟩
  obtain ⟨m0, m1, m2, m3, m4⟩ := fiveO ((hb1.block w.heap.size (by simp)).trans (newestO _ _))
  have K1 := Hid.intro (k_trans K0.out hb1)
  have L1 := Hid.intro hb1
  clear hb1
  go_wp2_with (go_at_call 35; refine (within_any _ _ _ _).mono ?_; rintro e w' ⟨rfl, rfl⟩)
  refine (columnsOk_any _ t.cols _ (HC.out.kept K1.out)).mono ?_
  rw [h3]
  rintro e w2 ⟨rfl, hb2⟩
  obtain ⟨n0, n1, n2, n3, n4⟩ := fiveO (((k_trans L1.out hb2).block w.heap.size (by simp)).trans (newestO _ _))
  have K2 := Hid.intro (k_trans K1.out hb2)
  clear hb2
  go_wp2_with fail
  refine (rowsOk_any _ t.rows _ (HR.out.kept K2.out)).mono ?_
  rintro e w3 ⟨rfl, hb3⟩
  have K3 := Hid.intro (k_trans K2.out hb3)
  clear hb3
  go_wp2
  go_ret
  exact ⟨retB HF.out.symm, K3.out⟩
end Go.Proofs.Ytggmjiddadjilal
