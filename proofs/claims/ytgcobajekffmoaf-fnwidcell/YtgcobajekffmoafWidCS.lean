/-
  PROVED HERE: what the model's WidCell answers of any list of numbers in memory and any cell; nothing that was in memory is turned.
-/
import Derived.Test.YtgcobajekffmoafWidCI
import Derived.Test.YtgcobajekffmoafAmongS
namespace Go.Proofs.Ytgcobajekffmoaf
open Go.RowKit

set_option maxRecDepth 100000 in
set_option maxHeartbeats 1000000 in
theorem specWidCell (v : Value) (l : List Int) (hl : l.length ≤ 1048576) (gap : Int) (x : GC) (hx : GOk x) (w : World) (h : IntsAt w v l) :
    Calls Try.prog 12 #[v, .int .i64 gap, .agg #[.int .i64 x.row, .int .i64 x.col, .int .i64 x.rows, .int .i64 x.cols, .int .i64 x.ins]] w fun e w' => e = .returned (.int .i64 (cellV l gap x)) ∧ Below w.heap.size w w' := by
  obtain ⟨a, cap, rfl, hlen⟩ := h.form
  obtain ⟨_, b1, _, b3, _⟩ := hx
  have K0 := k_alloc (Below.refl w.heap.size w) (.cells #[.int .i64 x.row, .int .i64 x.col, .int .i64 x.rows, .int .i64 x.cols, .int .i64 x.ins] 29)
  have X0 := newestB w (.cells #[.int .i64 x.row, .int .i64 x.col, .int .i64 x.rows, .int .i64 x.cols, .int .i64 x.ins] 29)
  have c1 := cellB (p := 1) X0
  have c3 := cellB (p := 3) X0
  have H := Hid.intro (h.kept K0)
  have HB := Hid.intro K0
  have HR := Hid.intro (fun (k : Nat) (hk : k ≤ 1048576) => l1Among_any (k : Int) x.col x.cols (by unfold I64; omega) b1 b3)
  clear h b1 b3 K0 X0
  go_enter Try.func12, Try.ntmps12
  go_wp2_with fail
  generalize w.alloc (.cells #[.int .i64 x.row, .int .i64 x.col, .int .i64 x.rows, .int .i64 x.cols, .int .i64 x.ins] 29) = W0 at c1 c3 H HB ⊢
  go_loop [7, 8, 9] (fun n s i => ∃ k : Nat, i = .int .i64 k ∧ k ≤ l.length ∧ n = .int .i64 (acrV (ownL l (inCell x) k) gap) ∧ s = .bool (decide ((ownL l (inCell x) k).length ≠ 0))) (fun _ _ i => l.length - (intOf i).toNat)
  case atStart => exact ⟨0, rfl, Nat.zero_le _, rfl, rfl⟩
  case round =>
    obtain ⟨k, rfl, hk, rfl, rfl⟩ := hrel
    have d1 : W0.cell? ⟨w.heap.size, 1, none⟩ = some (.int .i64 x.col) := c1
    have d3 : W0.cell? ⟨w.heap.size, 3, none⟩ = some (.int .i64 x.cols) := c3
    by_cases hlt : k < l.length
    · obtain ⟨b, off, cap', e', hc1, hc2, hbl, hy⟩ := H.out.get hlt
      simp only [Value.slice.injEq, true_and] at e'
      obtain ⟨rfl, rfl⟩ := e'
      unfold maxLen at hc2
      have KR := Hid.intro (HR.out k (by omega) W0)
      cases hin : inCell x k with
      | false =>
        have HL := Hid.intro (ownL_no (l := l) hin)
        have hin' : amongB (k : Int) x.col x.cols = false := hin
        rw [hin'] at KR
        clear hin hin'
        generalize l.getD k 0 = y at hy
        generalize ownL l (inCell x) k = xs at HL ⊢
        obtain ⟨z, hz⟩ : ∃ z, decide (xs.length ≠ 0) = z := ⟨_, rfl⟩
        have HZ := Hid.intro hz
        rw [hz]
        clear hz
        go_wp2_with fail
        refine KR.out.mono ?_
        rintro e w1 ⟨rfl, rfl⟩
        go_wp2
        go_round
        case rel => exact ⟨k + 1, by go_num, by omega, by rw [HL.out], by rw [HL.out, HZ.out]⟩
        case measure => simp [intOf]; omega
      | true =>
        have HL := Hid.intro (ownL_yes (l := l) hin)
        have hin' : amongB (k : Int) x.col x.cols = true := hin
        rw [hin'] at KR
        clear hin hin'
        generalize l.getD k 0 = y at hy HL
        generalize ownL l (inCell x) k = xs at HL ⊢
        by_cases hx0 : xs.length = 0
        · have HN := Hid.intro (acrV_first xs hx0 gap y)
          have hd : decide (xs.length ≠ 0) = false := by simp [hx0]
          rw [hd]
          generalize acrV xs gap = z at HN ⊢
          clear hx0 hd
          go_wp2_with fail
          refine KR.out.mono ?_
          rintro e w1 ⟨rfl, rfl⟩
          go_wp2
          go_round
          case rel => exact ⟨k + 1, by go_num, by omega, by rw [HL.out, HN.out], by rw [HL.out]; simp⟩
          case measure => simp [intOf]; omega
        · have HN := Hid.intro (acrV_next xs hx0 gap y)
          have hd : decide (xs.length ≠ 0) = true := by simp [hx0]
          rw [hd]
          generalize acrV xs gap = z at HN ⊢
          clear hx0 hd
          go_wp2_with fail
          refine KR.out.mono ?_
          rintro e w1 ⟨rfl, rfl⟩
          go_wp2
          go_round
          case rel => exact ⟨k + 1, by go_num, by omega, by rw [HL.out, HN.out], by rw [HL.out]; simp⟩
          case measure => simp [intOf]; omega
    · obtain rfl : k = l.length := by omega
      have HV : Hid (acrV (ownL l (inCell x) l.length) gap = cellV l gap x) := rfl
      rw [HV.out]
      generalize decide ((ownL l (inCell x) l.length).length ≠ 0) = z
      go_wp2
      go_ret
      exact ⟨rfl, HB.out⟩
end Go.Proofs.Ytgcobajekffmoaf
