/-
  PROVED HERE: what the program's TblCells and the model's answer at a table that lies in memory: how many cells all rows have; nothing that was in memory is turned.
-/
import Derived.Test.YtkcpcihamcdecasTbl
import Derived.WalkLawsBesides
import Derived.WalkSpells
namespace Go.Proofs.Ytkcpcihamcdecas
open Go.RowKit

def cnTo (rs : List R) (k : Nat) : Nat := ((rs.take k).map (fun x => x.cells.length)).sum
theorem cnTo_succ {rs : List R} {k : Nat} (h : k < rs.length) : cnTo rs (k + 1) = cnTo rs k + (rs.getD k dR).cells.length := by
  have e : rs.getD k dR = rs[k] := by simp [List.getD, h]
  rw [e]
  exact sum_take_succ (fun x : R => x.cells.length) rs k h
theorem cnTo_le (rs : List R) (k : Nat) : cnTo rs k ≤ totR rs := by
  have h1 := sum_take_le (fun x : R => x.cells.length) rs k
  have h2 : (rs.map (fun x : R => x.cells.length)).sum ≤ totR rs := by
    clear h1
    induction rs with
    | nil => simp [totR]
    | cons x r ih => have := totC_eq x.cells; simp [totR]; omega
  exact Nat.le_trans h1 h2
theorem retI64 {a b : Int} (h : a = b) : Ending.returned (.int .i64 a) = .returned (.int .i64 b) := by rw [h]

set_option maxRecDepth 100000 in
set_option maxHeartbeats 1000000 in
theorem specTblCells (ac ar : Option Addr) (cc cr : Nat) (t : T) (hn : totR t.rows ≤ 1048576) (w : World) {z : Nat} (h : RowsAt w z (.slice ar t.rows.length cr) t.rows) :
    Calls Try.prog 11 #[.agg #[.slice ac t.cols.length cc, .int .i64 t.head, .int .i64 t.foot, .slice ar t.rows.length cr, .int .i64 t.gap]] w fun e w' => e = .returned (.int .i64 (cnTo t.rows t.rows.length)) ∧ Below w.heap.size w w' := by
  obtain ⟨_, _, _, hlen⟩ := At.form h
  unfold maxLen at hlen
  have H := Hid.intro (h.kept (k_alloc (Below.refl _ _) (.cells #[.slice ac t.cols.length cc, .int .i64 t.head, .int .i64 t.foot, .slice ar t.rows.length cr, .int .i64 t.gap] 31)))
  clear h
  go_enter Try.func11, Try.ntmps11
  go_wp2_with fail
  go_loop [3, 4] (fun n i => ∃ k : Nat, k ≤ t.rows.length ∧ i = .int .i64 k ∧ n = .int .i64 (cnTo t.rows k)) (fun _ i => t.rows.length - (intOf i).toNat)
  case atStart => exact ⟨0, Nat.zero_le _, rfl, by simp [cnTo]⟩
  case round =>
    obtain ⟨k, hk, rfl, rfl⟩ := hrel
    have hle := cnTo_le t.rows k
    by_cases hlt : k < t.rows.length
    · obtain ⟨b, off, cap', e', hc1, hc2, hbl, u, hx0, hx1, hx⟩ := At.get H.out hlt
      simp only [Value.slice.injEq, true_and] at e'
      obtain ⟨rfl, rfl⟩ := e'
      have HS := Hid.intro (cnTo_succ hlt)
      have hle2 := cnTo_le t.rows (k + 1)
      rw [HS.out] at hle2
      generalize t.rows.getD k dR = x at hx1 hx HS hle2
      obtain ⟨ua, ucap, rfl, hul⟩ := At.form hx
      unfold maxLen at hc2 hul
      clear hx hx1
      go_wp2
      go_round
      case rel => exact ⟨k + 1, by omega, by go_num, by rw [HS.out]; go_num⟩
      case measure => simp [intOf]; omega
    · obtain rfl : k = t.rows.length := by omega
      go_wp2
      go_ret
      exact ⟨rfl, k_alloc (Below.refl _ _) _⟩

set_option maxRecDepth 100000 in
set_option maxHeartbeats 1000000 in
theorem implTblCells (ac ar : Option Addr) (cc cr : Nat) (t : T) (hn : totR t.rows ≤ 1048576) (w : World) {z : Nat} (h : RowsAt w z (.slice ar t.rows.length cr) t.rows) :
    Calls Try.prog 12 #[.agg #[.slice ac t.cols.length cc, .int .i64 t.head, .int .i64 t.foot, .slice ar t.rows.length cr, .int .i64 t.gap]] w fun e w' => e = .returned (.int .i64 (cnTo t.rows t.rows.length)) ∧ Below w.heap.size w w' := by
  obtain ⟨_, _, _, hlen⟩ := At.form h
  unfold maxLen at hlen
  have H := Hid.intro h
  clear h
  go_enter Try.func12, Try.ntmps12
  go_wp2_with fail
  go_loopw [3, 5, 9] (fun n _ i W => ∃ k : Nat, k ≤ t.rows.length ∧ i = .int .i64 k ∧ n = .int .i64 (cnTo t.rows k) ∧ Hid (Below w.heap.size w W)) (fun _ _ i _ => t.rows.length - (intOf i).toNat)
  case atStart => exact ⟨0, Nat.zero_le _, rfl, by simp [cnTo], k_alloc (Below.refl _ _) _⟩
  case round =>
    obtain ⟨k, hk, rfl, rfl, HB⟩ := hrel
    have hle := cnTo_le t.rows k
    by_cases hlt : k < t.rows.length
    · obtain ⟨b, off, cap', e', hc1, hc2, hbl, u, hx0, hx1, hx⟩ := At.get (H.out.kept HB.out) hlt
      simp only [Value.slice.injEq, true_and] at e'
      obtain ⟨rfl, rfl⟩ := e'
      have HS := Hid.intro (cnTo_succ hlt)
      have hle2 := cnTo_le t.rows (k + 1)
      rw [HS.out] at hle2
      generalize t.rows.getD k dR = x at hx1 hx HS hle2
      obtain ⟨ua, ucap, rfl, hul⟩ := At.form hx
      unfold maxLen at hc2 hul
      clear hx
      go_wp2
      go_roundw
      case rel => exact ⟨k + 1, by omega, by go_num, by rw [HS.out]; go_num, k_alloc HB.out _⟩
      case measure => simp [intOf]; omega
    · obtain rfl : k = t.rows.length := by omega
      go_wp2
      go_ret
      exact ⟨rfl, HB.out⟩
end Go.Proofs.Ytkcpcihamcdecas
