/-
  PROVED HERE: what the model's HgtCell answers of any list of numbers in memory and any cell; nothing that was in memory is turned.
-/
import Derived.Test.YtmdghonefdmihagHgtCI
import Derived.Test.YtmdghonefdmihagAmongS
namespace Go.Proofs.Ytmdghonefdmihag
open Go.RowKit

theorem acr0 (xs : List Int) : acrV xs 0 = wrap64 xs.sum := by
  unfold acrV
  split
  · rename_i h
    obtain rfl : xs = [] := List.eq_nil_of_length_eq_zero h
    simp [W_eq]
  · rw [Int.zero_mul, Int.add_zero]
theorem own_next (xs : List Int) (y : Int) : wrap64 (wrap64 xs.sum + y) = wrap64 (xs ++ [y]).sum := by
  rw [W_addl, List.sum_append, List.sum_cons, List.sum_nil, Int.add_zero]
set_option maxRecDepth 100000 in
set_option maxHeartbeats 1000000 in
theorem specHgtCell (v : Value) (l : List Int) (hl : l.length ≤ 1048576) (x : GC) (hx : GOk x) (w : World) (h : IntsAt w v l) :
    Calls Try.prog 9 #[v, .agg #[.int .i64 x.row, .int .i64 x.col, .int .i64 x.rows, .int .i64 x.cols, .int .i64 x.ins]] w fun e w' => e = .returned (.int .i64 (highV l x)) ∧ Below w.heap.size w w' := by
  obtain ⟨a, cap, rfl, hlen⟩ := h.form
  obtain ⟨b0, _, b2, _, _⟩ := hx
  have K0 := k_alloc (Below.refl w.heap.size w) (.cells #[.int .i64 x.row, .int .i64 x.col, .int .i64 x.rows, .int .i64 x.cols, .int .i64 x.ins] 27)
  have X0 := newestB w (.cells #[.int .i64 x.row, .int .i64 x.col, .int .i64 x.rows, .int .i64 x.cols, .int .i64 x.ins] 27)
  have c1 := cellB (p := 0) X0
  have c3 := cellB (p := 2) X0
  have H := Hid.intro (h.kept K0)
  have HB := Hid.intro K0
  have HR := Hid.intro (fun (k : Nat) (hk : k ≤ 1048576) => l1Among_any (k : Int) x.row x.rows (by unfold I64; omega) b0 b2)
  clear h b0 b2 K0 X0
  go_enter Try.func9, Try.ntmps9
  go_wp2_with fail
  generalize w.alloc (.cells #[.int .i64 x.row, .int .i64 x.col, .int .i64 x.rows, .int .i64 x.cols, .int .i64 x.ins] 27) = W0 at c1 c3 H HB ⊢
  go_loop [5, 6] (fun n i => ∃ k : Nat, i = .int .i64 k ∧ k ≤ l.length ∧ n = .int .i64 (wrap64 (ownL l (inCell (hgtG x)) k).sum)) (fun _ i => l.length - (intOf i).toNat)
  case atStart => exact ⟨0, rfl, Nat.zero_le _, by simp [ownL, W_eq]⟩
  case round =>
    obtain ⟨k, rfl, hk, rfl⟩ := hrel
    have d1 : W0.cell? ⟨w.heap.size, 0, none⟩ = some (.int .i64 x.row) := c1
    have d3 : W0.cell? ⟨w.heap.size, 2, none⟩ = some (.int .i64 x.rows) := c3
    by_cases hlt : k < l.length
    · obtain ⟨b, off, cap', e', hc1, hc2, hbl, hy⟩ := H.out.get hlt
      simp only [Value.slice.injEq, true_and] at e'
      obtain ⟨rfl, rfl⟩ := e'
      unfold maxLen at hc2
      have KR := Hid.intro (HR.out k (by omega) W0)
      cases hin : inCell (hgtG x) k with
      | false =>
        have HL := Hid.intro (ownL_no (l := l) hin)
        have hin' : amongB (k : Int) x.row x.rows = false := hin
        rw [hin'] at KR
        clear hin hin'
        generalize l.getD k 0 = y at hy
        generalize ownL l (inCell (hgtG x)) k = xs at HL ⊢
        obtain ⟨z, hz⟩ : ∃ z, wrap64 xs.sum = z := ⟨_, rfl⟩
        have HZ := Hid.intro hz
        rw [hz]
        clear hz
        go_wp2_with fail
        refine KR.out.mono ?_
        rintro e w1 ⟨rfl, rfl⟩
        go_wp2
        go_round
        case rel => exact ⟨k + 1, by go_num, by omega, by rw [HL.out, HZ.out]⟩
        case measure => simp [intOf]; omega
      | true =>
        have HL := Hid.intro (ownL_yes (l := l) hin)
        have hin' : amongB (k : Int) x.row x.rows = true := hin
        rw [hin'] at KR
        clear hin hin'
        generalize l.getD k 0 = y at hy HL
        generalize ownL l (inCell (hgtG x)) k = xs at HL ⊢
        have HN := Hid.intro (own_next xs y)
        generalize wrap64 xs.sum = z at HN ⊢
        go_wp2_with fail
        refine KR.out.mono ?_
        rintro e w1 ⟨rfl, rfl⟩
        go_wp2
        go_round
        case rel => exact ⟨k + 1, by go_num, by omega, by rw [HL.out, ← HN.out]⟩
        case measure => simp [intOf]; omega
    · obtain rfl : k = l.length := by omega
      have HV : Hid (wrap64 (ownL l (inCell (hgtG x)) l.length).sum = highV l x) := by rw [Hid, highV, cellV, acr0]
      rw [HV.out]
      go_wp2
      go_ret
      exact ⟨rfl, HB.out⟩
end Go.Proofs.Ytmdghonefdmihag
