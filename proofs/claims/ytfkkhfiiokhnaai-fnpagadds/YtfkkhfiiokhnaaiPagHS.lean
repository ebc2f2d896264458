/-
  PROVED HERE: what the model's l9High and PagHigh answer of any slices in memory; nothing that was in memory is turned.
-/
import Derived.Test.YtfkkhfiiokhnaaiPagHB
import Derived.WalkLawsBesides
import Derived.WalkSpells
import Derived.Deep.QuietTactic
import Derived.BigQuiet
namespace Go.Proofs.Ytfkkhfiiokhnaai
open Go.RowKit

set_option maxRecDepth 100000 in
set_option maxHeartbeats 1000000 in
theorem specl9High (v : Value) (ps : List PgS) (w : World) {z : Nat} (h : PsAt w z v ps) :
    Calls Try.prog 10 #[v] w fun e w' => e = .returned (.int .i64 (highP ps)) ∧ Below w.heap.size w w' := by
  obtain ⟨a, cap, rfl, hlen⟩ := At.form h
  have H := Hid.intro h
  clear h
  go_enter Try.func10, Try.ntmps10
  go_wp2_with fail
  go_loopw [3, 4] (fun s i W => ∃ k : Nat, k ≤ ps.length ∧ i = .int .i64 k ∧ s = .int .i64 (wrap64 (hiTo ps k)) ∧ Hid (Below w.heap.size w W)) (fun _ i _ => ps.length - (intOf i).toNat)
  case atStart => exact ⟨0, Nat.zero_le _, rfl, by simp [hiTo, W_eq], Below.refl _ _⟩
  case round =>
    obtain ⟨k, hk, rfl, rfl, HB⟩ := hrel
    by_cases hlt : k < ps.length
    · obtain ⟨b, off, cap', e', hc1, hc2, hbl, hx⟩ := At.get (H.out.kept HB.out) hlt
      simp only [Value.slice.injEq, true_and] at e'
      obtain ⟨rfl, rfl⟩ := e'
      have HS := Hid.intro (hi_spec ps k)
      generalize ps.getD k dP = x at hx HS
      generalize wrap64 (hiTo ps k) = s at HS ⊢
      obtain ⟨x0, x1, x2⟩ := hx
      unfold maxLen at hc2
      have hkl : (k : Int) < (ps.length : Int) := by omega
      have hk0 : (0 : Int) ≤ (k : Int) := by omega
      go_wp2_with fail
      go_quiet (fail)
      go_wp2
      go_roundw
      case rel => exact ⟨k + 1, by omega, by go_num, by rw [← HS.out], k_drewN HB.out nq⟩
      case measure => simp [intOf]; omega
    · obtain rfl : k = ps.length := by omega
      go_wp2
      go_ret
      exact ⟨rfl, HB.out⟩

set_option maxRecDepth 100000 in
theorem specPagHigh (v : Value) (ps : List PgS) (w : World) {z : Nat} (h : PsAt w z v ps) :
    Calls Try.prog 6 #[v] w fun e w' => e = .returned (.int .i64 (highP ps)) ∧ Below w.heap.size w w' := by
  obtain ⟨a, cap, rfl, hlen⟩ := At.form h
  have H := Hid.intro h
  clear h
  go_enter Try.func6, Try.ntmps6
  go_wp2_with fail
  refine (specl9High _ ps _ H.out).mono ?_
  rintro e w1 ⟨rfl, hb1⟩
  go_wp2
  go_ret
  exact ⟨rfl, hb1⟩
end Go.Proofs.Ytfkkhfiiokhnaai
