/-
  PROVED HERE: what the program's columnsOk, rowOk, rowsOk and partsOk answer at a table that lies in memory; nothing that was in memory is turned.
-/
import Derived.Test.YtfkkhfiiokhnaayTblB
import Derived.Test.YtfkkhfiiokhnaayCellI
import Derived.Test.YtfkkhfiiokhnaayTblColI
namespace Go.Proofs.Ytfkkhfiiokhnaay
open Go.RowKit

set_option maxRecDepth 100000 in
set_option maxHeartbeats 1000000 in
theorem columnsOk_any (v : Value) (ps : List (Int × Int)) (w : World) {z : Nat} (h : ColsAt w z v ps) :
    Calls Try.prog 53 #[v] w fun e w' => e = .returned (.bool (colsB ps)) ∧ Below w.heap.size w w' := by
  obtain ⟨a, cap, rfl, hlen⟩ := At.form h
  unfold maxLen at hlen
  have H := Hid.intro h
  clear h
  by_cases h8 : (8 : Int) < (ps.length : Int)
  · have HF : Hid (colsB ps = false) := Hid.intro (by have : ¬ ps.length ≤ 8 := by omega
                                                      simp [colsB, this])
    go_enter Try.func53, Try.ntmps53
    go_wp2
    go_ret
    exact ⟨retB HF.out.symm, Below.refl _ _⟩
  · have h8' : ps.length ≤ 8 := by omega
    go_enter Try.func53, Try.ntmps53
    go_wp2_with fail
    go_loopw [4, 10] (fun _ i W => ∃ k : Nat, k ≤ ps.length ∧ i = .int .i64 k ∧ Hid (∀ j, j < k → (fun p : Int × Int => colB p.1 p.2) (ps.getD j (0, 0)) = true) ∧ Hid (Below w.heap.size w W)) (fun _ i _ => ps.length - (intOf i).toNat)
    case atStart => exact ⟨0, Nat.zero_le _, rfl, fun j hj => absurd hj (Nat.not_lt_zero _), Below.refl _ _⟩
    case round =>
      obtain ⟨k, hk, rfl, HA, HB⟩ := hrel
      by_cases hlt : k < ps.length
      · obtain ⟨b, off, cap', e', hc1, hc2, hbl, hx0, hx1⟩ := At.get (H.out.kept HB.out) hlt
        simp only [Value.slice.injEq, true_and] at e'
        obtain ⟨rfl, rfl⟩ := e'
        unfold maxLen at hc2
        cases hv : colB (ps.getD k (0, 0)).1 (ps.getD k (0, 0)).2
        · have HF : Hid (colsB ps = false) := Hid.intro (by rw [colsB, all_false (0, 0) (fun p : Int × Int => colB p.1 p.2) ps k hlt hv, Bool.and_false])
          generalize ps.getD k (0, 0) = x at hx0 hx1 hv
          go_wp2_with fail
          refine (implColumnOk _ _ _).mono ?_
          rw [hv]
          rintro e w1 ⟨rfl, hb1⟩
          have K1 := Hid.intro (k_trans (k_alloc HB.out _) hb1)
          clear hb1
          go_wp2
          go_ret
          exact ⟨retB HF.out.symm, K1.out⟩
        · have HN := Hid.intro (next_true (p := fun p : Int × Int => colB p.1 p.2) HA.out hv)
          generalize ps.getD k (0, 0) = x at hx0 hx1 hv
          go_wp2_with fail
          refine (implColumnOk _ _ _).mono ?_
          rw [hv]
          rintro e w1 ⟨rfl, hb1⟩
          have K1 := Hid.intro (k_trans (k_alloc HB.out _) hb1)
          clear hb1
          go_wp2
          go_roundw
          case rel => exact ⟨k + 1, by omega, by go_num, HN, K1⟩
          case measure => simp [intOf]; omega
      · obtain rfl : k = ps.length := by omega
        have HF : Hid (colsB ps = true) := Hid.intro (by rw [colsB, all_true (0, 0) (fun p : Int × Int => colB p.1 p.2) ps HA.out]; simp [h8'])
        go_wp2
        go_ret
        exact ⟨retB HF.out.symm, HB.out⟩

set_option maxRecDepth 100000 in
set_option maxHeartbeats 1000000 in
theorem rowOk_any (u : Value) (r : R) (w : World) {z : Nat} (h : CellsAt w z u r.cells) :
    Calls Try.prog 59 #[.agg #[u, .bool r.whole]] w fun e w' => e = .returned (.bool (rowB r)) ∧ Below w.heap.size w w' := by
  obtain ⟨a, cap, rfl, hlen⟩ := At.form h
  unfold maxLen at hlen
  have H := Hid.intro h
  clear h
  by_cases h8 : (5 : Int) < (r.cells.length : Int)
  · have HF : Hid (rowB r = false) := Hid.intro (by have : ¬ r.cells.length ≤ 5 := by omega
                                                    simp [rowB, this])
    go_enter Try.func59, Try.ntmps59
    go_wp2
    go_ret
    exact ⟨retB HF.out.symm, k_alloc (Below.refl _ _) _⟩
  · have h8' : r.cells.length ≤ 5 := by omega
    go_enter Try.func59, Try.ntmps59
    go_wp2_with fail
    go_loopw [4, 12] (fun _ i W => ∃ k : Nat, k ≤ r.cells.length ∧ i = .int .i64 k ∧ Hid (∀ j, j < k → cB (r.cells.getD j dC) = true) ∧ Hid (Below w.heap.size w W)) (fun _ i _ => r.cells.length - (intOf i).toNat)
    case atStart => exact ⟨0, Nat.zero_le _, rfl, fun j hj => absurd hj (Nat.not_lt_zero _), k_alloc (Below.refl _ _) _⟩
    case round =>
      obtain ⟨k, hk, rfl, HA, HB⟩ := hrel
      by_cases hlt : k < r.cells.length
      · obtain ⟨b, off, cap', e', hc1, hc2, hbl, hx, hs⟩ := At.get (H.out.kept HB.out) hlt
        simp only [Value.slice.injEq, true_and] at e'
        obtain ⟨rfl, rfl⟩ := e'
        unfold maxLen at hc2
        have hs' := Hid.intro hs
        cases hv : cB (r.cells.getD k dC)
        · have HF : Hid (rowB r = false) := Hid.intro (by rw [rowB, all_false dC cB r.cells k hlt hv, Bool.and_false])
          generalize r.cells.getD k dC = x at hx hs' hv
          obtain ⟨x0, x1, x2, x3, x4, x5, x6, x7, x8, x9, x10⟩ := hx
          clear hs
          go_wp2_with fail
          refine (implCellOk _ _ _ _ _ _ _ _ _ _ _ _ hs'.out).mono ?_
          rw [show cellOkB x.s x.c x.r x.a1 x.b1 x.a2 x.b2 x.a3 x.b3 x.a4 x.b4 = false from hv]
          rintro e w1 ⟨rfl, hb1⟩
          have K1 := Hid.intro (k_trans (k_alloc HB.out _) hb1)
          clear hb1
          go_wp2
          go_ret
          exact ⟨retB HF.out.symm, K1.out⟩
        · have HN := Hid.intro (next_true HA.out hv)
          generalize r.cells.getD k dC = x at hx hs' hv
          obtain ⟨x0, x1, x2, x3, x4, x5, x6, x7, x8, x9, x10⟩ := hx
          clear hs
          go_wp2_with fail
          refine (implCellOk _ _ _ _ _ _ _ _ _ _ _ _ hs'.out).mono ?_
          rw [show cellOkB x.s x.c x.r x.a1 x.b1 x.a2 x.b2 x.a3 x.b3 x.a4 x.b4 = true from hv]
          rintro e w1 ⟨rfl, hb1⟩
          have K1 := Hid.intro (k_trans (k_alloc HB.out _) hb1)
          clear hb1
          go_wp2
          go_roundw
          case rel => exact ⟨k + 1, by omega, by go_num, HN, K1⟩
          case measure => simp [intOf]; omega
      · obtain rfl : k = r.cells.length := by omega
        have HF : Hid (rowB r = true) := Hid.intro (by rw [rowB, all_true dC cB r.cells HA.out]; simp [h8'])
        go_wp2
        go_ret
        exact ⟨retB HF.out.symm, HB.out⟩

set_option maxRecDepth 100000 in
set_option maxHeartbeats 1000000 in
theorem rowsOk_any (v : Value) (rs : List R) (w : World) {z : Nat} (h : RowsAt w z v rs) :
    Calls Try.prog 54 #[v] w fun e w' => e = .returned (.bool (rs.all rowB)) ∧ Below w.heap.size w w' := by
  obtain ⟨a, cap, rfl, hlen⟩ := At.form h
  unfold maxLen at hlen
  have H := Hid.intro h
  clear h
  go_enter Try.func54, Try.ntmps54
  go_wp2_with fail
  go_loopw [4, 7] (fun _ i W => ∃ k : Nat, k ≤ rs.length ∧ i = .int .i64 k ∧ Hid (∀ j, j < k → rowB (rs.getD j dR) = true) ∧ Hid (Below w.heap.size w W)) (fun _ i _ => rs.length - (intOf i).toNat)
  case atStart => exact ⟨0, Nat.zero_le _, rfl, fun j hj => absurd hj (Nat.not_lt_zero _), Below.refl _ _⟩
  case round =>
    obtain ⟨k, hk, rfl, HA, HB⟩ := hrel
    by_cases hlt : k < rs.length
    · obtain ⟨b, off, cap', e', hc1, hc2, hbl, u, hx0, hx1, hx⟩ := At.get (H.out.kept HB.out) hlt
      simp only [Value.slice.injEq, true_and] at e'
      obtain ⟨rfl, rfl⟩ := e'
      unfold maxLen at hc2
      obtain ⟨ua, ucap, rfl, _⟩ := At.form hx
      have HX := Hid.intro hx
      clear hx
      cases hv : rowB (rs.getD k dR)
      · have HF : Hid (rs.all rowB = false) := Hid.intro (all_false dR rowB rs k hlt hv)
        generalize rs.getD k dR = x at hx0 hx1 hv HX
        go_wp2_with fail
        refine (rowOk_any _ x _ (HX.out.kept (k_alloc (Below.refl _ _) _))).mono ?_
        rw [hv]
        rintro e w1 ⟨rfl, hb1⟩
        have K1 := Hid.intro (k_trans (k_alloc HB.out _) hb1)
        clear hb1
        go_wp2
        go_ret
        exact ⟨retB HF.out.symm, K1.out⟩
      · have HN := Hid.intro (next_true HA.out hv)
        generalize rs.getD k dR = x at hx0 hx1 hv HX
        go_wp2_with fail
        refine (rowOk_any _ x _ (HX.out.kept (k_alloc (Below.refl _ _) _))).mono ?_
        rw [hv]
        rintro e w1 ⟨rfl, hb1⟩
        have K1 := Hid.intro (k_trans (k_alloc HB.out _) hb1)
        clear hb1
        go_wp2
        go_roundw
        case rel => exact ⟨k + 1, by omega, by go_num, HN, K1⟩
        case measure => simp [intOf]; omega
    · obtain rfl : k = rs.length := by omega
      have HF : Hid (rs.all rowB = true) := Hid.intro (all_true dR rowB rs HA.out)
      go_wp2
      go_ret
      exact ⟨retB HF.out.symm, HB.out⟩

set_option maxRecDepth 100000 in
set_option maxHeartbeats 1000000 in
theorem partsOk_any (vc : Value) (ar : Option Addr) (n cr : Nat) (hd ft gp : Int) (a : Option Addr) (m c : Nat) (hvc : vc = .slice a m c) (hn : n ≤ 4611686018427387903) (w : World) :
    Calls Try.prog 52 #[.agg #[vc, .int .i64 hd, .int .i64 ft, .slice ar n cr, .int .i64 gp]] w fun e w' => e = .returned (.bool (partsB n hd ft)) ∧ Below w.heap.size w w' := by
  subst hvc
  cases h1 : inB hd 0 n
  · have HF : Hid (partsB n hd ft = false) := Hid.intro (by rw [partsB, h1]; rfl)
    go_enter Try.func52, Try.ntmps52
    go_wp2_with (go_at_call 33; refine (within_any _ _ _ _).mono ?_; rintro e w' ⟨rfl, rfl⟩)
    go_ret
    exact ⟨retB HF.out.symm, k_alloc (Below.refl _ _) _⟩
  · have h1' : 0 ≤ hd ∧ hd ≤ n := of_decide_eq_true h1
    obtain ⟨g1, g2⟩ := h1'
    have HF : Hid (partsB n hd ft = inB ft 0 (n - hd)) := Hid.intro (by rw [partsB, h1]; rfl)
    go_enter Try.func52, Try.ntmps52
    go_wp2_with (go_at_call 33; refine (within_any _ _ _ _).mono ?_; rintro e w' ⟨rfl, rfl⟩)
    go_ret
    exact ⟨retB HF.out.symm, k_alloc (Below.refl _ _) _⟩
end Go.Proofs.Ytfkkhfiiokhnaay
