/-
  PROVED HERE: what the program's sumOf answers of any list of numbers in memory; nothing in memory is turned.
-/
import Derived.Test.YtmdghonefdmihagWidB
import Derived.WalkLawsBesides
import Derived.WalkSpells
import Derived.Deep.RegionWith
import Derived.Deep.QuietTactic
import Derived.BigQuiet
namespace Go.Proofs.Ytmdghonefdmihag
open Go.RowKit

set_option maxRecDepth 100000 in
set_option maxHeartbeats 1000000 in
theorem implsumOfW (v : Value) (l : List Int) (w : World) (h : IntsAt w v l) :
    Calls Try.prog 17 #[v] w fun e w' => e = .returned (.int .i64 (wrap64 l.sum)) ∧ w' = w := by
  obtain ⟨a, cap, rfl, hlen⟩ := h.form
  have H := Hid.intro h
  clear h
  go_enter Try.func17, Try.ntmps17
  go_wp2_with fail
  go_loop [3, 8] (fun s i => ∃ k : Nat, k ≤ l.length ∧ i = .int .i64 k ∧ s = .int .i64 (wrap64 (sumTo l k))) (fun _ i => l.length - (intOf i).toNat)
  case atStart => exact ⟨0, Nat.zero_le _, rfl, by simp [sumTo, W_eq]⟩
  case round =>
    obtain ⟨k, hk, rfl, rfl⟩ := hrel
    by_cases hlt : k < l.length
    · obtain ⟨b, off, cap', e', hc1, hc2, hbl, hx⟩ := H.out.get hlt
      simp only [Value.slice.injEq, true_and] at e'
      obtain ⟨rfl, rfl⟩ := e'
      have HS : Hid (wrap64 (wrap64 (sumTo l k) + l.getD k 0) = wrap64 (sumTo l (k + 1))) := by rw [Hid, sumTo_succ hlt, W_addl]
      generalize l.getD k 0 = x at hx HS
      generalize wrap64 (sumTo l k) = s at HS ⊢
      unfold maxLen at hc2
      go_wp2
      go_round
      case rel => exact ⟨k + 1, by omega, by go_num, by rw [← HS.out]⟩
      case measure => simp [intOf]; omega
    · obtain rfl : k = l.length := by omega
      have HE := Hid.intro (sumTo_all l)
      go_wp2
      go_ret
      exact ⟨by rw [← HE.out]; rfl, rfl⟩
end Go.Proofs.Ytmdghonefdmihag
