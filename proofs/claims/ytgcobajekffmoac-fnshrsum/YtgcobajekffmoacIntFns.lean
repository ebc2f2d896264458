/-
  PROVED HERE: what the program's and the model's sums and ShrOk answer of lists of numbers in memory; nothing that was in memory is turned.
-/
import Derived.Test.YtgcobajekffmoacInB
import Derived.Test.YtgcobajekffmoacInts
import Derived.Test.YtgcobajekffmoacIntB
import Derived.Deep.RegionWith
import Derived.Deep.QuietTactic
import Derived.BigQuiet
namespace Go.Proofs.Ytgcobajekffmoac
open Go.RowKit

set_option maxRecDepth 100000 in
set_option maxHeartbeats 1000000 in
theorem implsumOf_any (v : Value) (l : List Int) (hl : l.length ≤ 1000) (hw : l.all wtB = true) (w : World) (h : IntsAt w v l) :
    Calls Try.prog 41 #[v] w fun e w' => e = .returned (.int .i64 l.sum) ∧ w' = w := by
  obtain ⟨a, cap, rfl, _⟩ := h.form
  have H := Hid.intro h
  have HW := Hid.intro (sumTo_bound hw)
  have HG := Hid.intro (fun i hi => wt_get (i := i) hw hi)
  clear h hw
  go_enter Try.func41, Try.ntmps41
  go_wp2_with fail
  go_loop [3, 8] (fun s i => ∃ k : Nat, k ≤ l.length ∧ i = .int .i64 k ∧ s = .int .i64 (sumTo l k)) (fun _ i => l.length - (intOf i).toNat)
  case atStart => exact ⟨0, Nat.zero_le _, rfl, by simp [sumTo]⟩
  case round =>
    obtain ⟨k, hk, rfl, rfl⟩ := hrel
    by_cases hlt : k < l.length
    · obtain ⟨b, off, cap', e', hc1, hc2, hbl, hx⟩ := H.out.get hlt
      simp only [Value.slice.injEq, true_and] at e'
      obtain ⟨rfl, rfl⟩ := e'
      have hb1 := HW.out k hk
      have hb2 := HG.out k hlt
      have HS := Hid.intro (sumTo_succ hlt)
      generalize l.getD k 0 = x at hx HS hb2
      generalize sumTo l k = s at HS hb1
      unfold maxLen at hc2
      go_wp2
      go_round
      case rel => exact ⟨k + 1, by omega, by go_num, by rw [HS.out]⟩
      case measure => simp [intOf]; omega
    · obtain rfl : k = l.length := by omega
      have HE := Hid.intro (sumTo_all l)
      go_wp2
      go_ret
      exact ⟨by rw [← HE.out]; rfl, rfl⟩

set_option maxRecDepth 100000 in
set_option maxHeartbeats 1000000 in
theorem specl1Sum_any (v : Value) (l : List Int) (hl : l.length ≤ 1000) (hw : l.all wtB = true) (w : World) (h : IntsAt w v l) :
    Calls Try.prog 53 #[v] w fun e w' => e = .returned (.int .i64 l.sum) ∧ w' = w := by
  obtain ⟨a, cap, rfl, _⟩ := h.form
  have H := Hid.intro h
  have HW := Hid.intro (sumTo_bound hw)
  have HG := Hid.intro (fun i hi => wt_get (i := i) hw hi)
  clear h hw
  go_enter Try.func53, Try.ntmps53
  go_wp2_with fail
  go_loop [3, 4] (fun s i => ∃ k : Nat, k ≤ l.length ∧ i = .int .i64 k ∧ s = .int .i64 (sumTo l k)) (fun _ i => l.length - (intOf i).toNat)
  case atStart => exact ⟨0, Nat.zero_le _, rfl, by simp [sumTo]⟩
  case round =>
    obtain ⟨k, hk, rfl, rfl⟩ := hrel
    by_cases hlt : k < l.length
    · obtain ⟨b, off, cap', e', hc1, hc2, hbl, hx⟩ := H.out.get hlt
      simp only [Value.slice.injEq, true_and] at e'
      obtain ⟨rfl, rfl⟩ := e'
      have hb1 := HW.out k hk
      have hb2 := HG.out k hlt
      have HS := Hid.intro (sumTo_succ hlt)
      generalize l.getD k 0 = x at hx HS hb2
      generalize sumTo l k = s at HS hb1
      unfold maxLen at hc2
      go_wp2
      go_round
      case rel => exact ⟨k + 1, by omega, by go_num, by rw [HS.out]⟩
      case measure => simp [intOf]; omega
    · obtain rfl : k = l.length := by omega
      have HE := Hid.intro (sumTo_all l)
      go_wp2
      go_ret
      exact ⟨by rw [← HE.out]; rfl, rfl⟩

set_option maxRecDepth 100000 in
set_option maxHeartbeats 1000000 in
theorem implShrOk (t : Int) (v : Value) (l : List Int) (w : World) (h : IntsAt w v l) :
    Calls Try.prog 24 #[.int .i64 t, v] w fun e w' => e = .returned (.bool (shrOkB t l)) ∧ w' = w := by
  obtain ⟨a, cap, rfl, hlen⟩ := h.form
  have H := Hid.intro h
  clear h
  have HC := Hid.intro (fun n => within_any n 0 100000)
  by_cases ht : wtB t = true
  · by_cases hl : (100 : Int) < (l.length : Int)
    · have HF : Hid (shrOkB t l = false) := by show _ = _; simp [shrOkB]; omega
      go_enter Try.func24, Try.ntmps24
      go_wp2_with fail
      refine (HC.out _ _).mono ?_
      rintro e w1 ⟨rfl, rfl⟩
      rw [wtB_in, ht]
      go_wp2
      go_ret
      exact ⟨retB HF.out.symm, rfl⟩
    · go_enter Try.func24, Try.ntmps24
      go_wp2_with fail
      refine (HC.out _ _).mono ?_
      rintro e w1 ⟨rfl, rfl⟩
      rw [wtB_in, ht]
      go_wp2_with fail
      go_loop [17] (fun i => ∃ k : Nat, k ≤ l.length ∧ i = .int .i64 k ∧ Hid ((l.take k).all wtB = true)) (fun i => l.length - (intOf i).toNat)
      case atStart => exact ⟨0, Nat.zero_le _, rfl, by simp [Hid]⟩
      case round =>
        obtain ⟨k, hk, rfl, HA⟩ := hrel
        by_cases hlt : k < l.length
        · obtain ⟨b, off, cap', e', hc1, hc2, hbl, hx⟩ := H.out.get hlt
          simp only [Value.slice.injEq, true_and] at e'
          obtain ⟨rfl, rfl⟩ := e'
          unfold maxLen at hc2
          by_cases hy : wtB (l.getD k 0) = true
          · have HN := Hid.intro (all_next hlt HA.out hy)
            generalize l.getD k 0 = x at hx hy
            go_wp2_with fail
            refine (HC.out _ _).mono ?_
            rintro e w1 ⟨rfl, rfl⟩
            rw [wtB_in, hy]
            go_wp2
            go_round
            case rel => exact ⟨k + 1, by omega, by go_num, HN⟩
            case measure => simp [intOf]; omega
          · have hy' := eq_false_of_ne_true hy
            have HF : Hid (shrOkB t l = false) := by show _ = _; simp only [shrOkB, not_all hlt hy', Bool.and_false]
            generalize l.getD k 0 = x at hx hy'
            go_wp2_with fail
            refine (HC.out _ _).mono ?_
            rintro e w1 ⟨rfl, rfl⟩
            rw [wtB_in, hy']
            go_wp2
            go_ret
            exact ⟨retB HF.out.symm, rfl⟩
        · obtain rfl : k = l.length := by omega
          have HF : Hid (shrOkB t l = true) := by have h1 := HA.out; rw [List.take_length] at h1; show _ = _; simp only [shrOkB, ht, h1, Bool.and_true, Bool.true_and, decide_eq_true_eq]; omega
          go_wp2
          go_ret
          exact ⟨retB HF.out.symm, rfl⟩
  · have ht' := eq_false_of_ne_true ht
    have HF : Hid (shrOkB t l = false) := by show _ = _; simp only [shrOkB, ht', Bool.false_and]
    go_enter Try.func24, Try.ntmps24
    go_wp2_with fail
    refine (HC.out _ _).mono ?_
    rintro e w1 ⟨rfl, rfl⟩
    rw [wtB_in, ht']
    go_wp2
    go_ret
    exact ⟨retB HF.out.symm, rfl⟩

set_option maxRecDepth 100000 in
set_option maxHeartbeats 1000000 in
theorem specShrOk (t : Int) (v : Value) (l : List Int) (w : World) (h : IntsAt w v l) :
    Calls Try.prog 25 #[.int .i64 t, v] w fun e w' => e = .returned (.bool (shrOkB t l)) ∧ w' = w := by
  obtain ⟨a, cap, rfl, hlen⟩ := h.form
  have H := Hid.intro h
  clear h
  have HC := Hid.intro (fun n => l1In_any n 0 100000)
  by_cases ht : wtB t = true
  · by_cases hl : (100 : Int) < (l.length : Int)
    · have HF : Hid (shrOkB t l = false) := by show _ = _; simp [shrOkB]; omega
      go_enter Try.func25, Try.ntmps25
      go_wp2_with fail
      refine (HC.out _ _).mono ?_
      rintro e w1 ⟨rfl, rfl⟩
      rw [wtB_in, ht]
      go_wp2
      go_ret
      exact ⟨retB HF.out.symm, rfl⟩
    · go_enter Try.func25, Try.ntmps25
      go_wp2_with fail
      refine (HC.out _ _).mono ?_
      rintro e w1 ⟨rfl, rfl⟩
      rw [wtB_in, ht]
      go_wp2_with fail
      go_loop [5] (fun i => ∃ k : Nat, k ≤ l.length ∧ i = .int .i64 k ∧ Hid ((l.take k).all wtB = true)) (fun i => l.length - (intOf i).toNat)
      case atStart => exact ⟨0, Nat.zero_le _, rfl, by simp [Hid]⟩
      case round =>
        obtain ⟨k, hk, rfl, HA⟩ := hrel
        by_cases hlt : k < l.length
        · obtain ⟨b, off, cap', e', hc1, hc2, hbl, hx⟩ := H.out.get hlt
          simp only [Value.slice.injEq, true_and] at e'
          obtain ⟨rfl, rfl⟩ := e'
          unfold maxLen at hc2
          by_cases hy : wtB (l.getD k 0) = true
          · have HN := Hid.intro (all_next hlt HA.out hy)
            generalize l.getD k 0 = x at hx hy
            go_wp2_with fail
            refine (HC.out _ _).mono ?_
            rintro e w1 ⟨rfl, rfl⟩
            rw [wtB_in, hy]
            go_wp2
            go_round
            case rel => exact ⟨k + 1, by omega, by go_num, HN⟩
            case measure => simp [intOf]; omega
          · have hy' := eq_false_of_ne_true hy
            have HF : Hid (shrOkB t l = false) := by show _ = _; simp only [shrOkB, not_all hlt hy', Bool.and_false]
            generalize l.getD k 0 = x at hx hy'
            go_wp2_with fail
            refine (HC.out _ _).mono ?_
            rintro e w1 ⟨rfl, rfl⟩
            rw [wtB_in, hy']
            go_wp2
            go_ret
            exact ⟨retB HF.out.symm, rfl⟩
        · obtain rfl : k = l.length := by omega
          have HF : Hid (shrOkB t l = true) := by have h1 := HA.out; rw [List.take_length] at h1; show _ = _; simp only [shrOkB, ht, h1, Bool.and_true, Bool.true_and, decide_eq_true_eq]; omega
          go_wp2
          go_ret
          exact ⟨retB HF.out.symm, rfl⟩
  · have ht' := eq_false_of_ne_true ht
    have HF : Hid (shrOkB t l = false) := by show _ = _; simp only [shrOkB, ht', Bool.false_and]
    go_enter Try.func25, Try.ntmps25
    go_wp2_with fail
    refine (HC.out _ _).mono ?_
    rintro e w1 ⟨rfl, rfl⟩
    rw [wtB_in, ht']
    go_wp2
    go_ret
    exact ⟨retB HF.out.symm, rfl⟩

end Go.Proofs.Ytgcobajekffmoac
