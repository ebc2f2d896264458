/-
  PROVED HERE: what the model's HgtAt answers of any list of numbers in memory; nothing in memory is turned.
-/
import Derived.Test.YtmdghonefdmihagWidB
import Derived.WalkLawsBesides
import Derived.WalkSpells
import Derived.Deep.RegionWith
import Derived.Deep.QuietTactic
import Derived.BigQuiet
namespace Go.Proofs.Ytmdghonefdmihag
open Go.RowKit

theorem hat_zero (l : List Int) : wrap64 (sumTo l 0) = 0 := by simp [sumTo, W_eq]
theorem hat_next {l : List Int} {k : Nat} (h : k < l.length) : wrap64 (wrap64 (sumTo l k) + l.getD k 0) = wrap64 (sumTo l (k + 1)) := by rw [W_addl, sumTo_succ h]
set_option maxRecDepth 100000 in
set_option maxHeartbeats 1000000 in
theorem specHgtAt (v : Value) (l : List Int) (col : Int) (w : World) (h : IntsAt w v l) :
    Calls Try.prog 7 #[v, .int .i64 col] w fun e w' => e = .returned (.int .i64 (atV l 0 col)) ∧ w' = w := by
  obtain ⟨a, cap, rfl, hlen⟩ := h.form
  have H := Hid.intro h
  clear h
  go_enter Try.func7, Try.ntmps7
  go_wp2_with fail
  go_loop [5, 6] (fun s i => ∃ k : Nat, k ≤ aheadN l col ∧ i = .int .i64 k ∧ s = .int .i64 (wrap64 (sumTo l k))) (fun _ i => l.length - (intOf i).toNat)
  case atStart => exact ⟨0, Nat.zero_le _, rfl, by rw [hat_zero]⟩
  case round =>
    obtain ⟨k, hk, rfl, rfl⟩ := hrel
    have hal := aheadN_le l col
    by_cases hlt : k < aheadN l col
    · have hlt2 : k < l.length := by omega
      have hcol : (k : Int) < col := by unfold aheadN at hlt; omega
      obtain ⟨b, off, cap', e', hc1, hc2, hbl, hx⟩ := H.out.get hlt2
      simp only [Value.slice.injEq, true_and] at e'
      obtain ⟨rfl, rfl⟩ := e'
      have HS := Hid.intro (hat_next hlt2)
      generalize wrap64 (sumTo l k) = s at HS ⊢
      generalize l.getD k 0 = x at hx HS
      unfold maxLen at hc2
      go_wp2
      go_round
      case rel => exact ⟨k + 1, by omega, by go_num, by rw [← HS.out]⟩
      case measure => simp [intOf]; omega
    · obtain rfl : k = aheadN l col := by omega
      have HE : Hid (wrap64 (sumTo l (aheadN l col)) = atV l 0 col) := by rw [Hid, atV, Int.zero_mul, Int.add_zero]
      rw [HE.out]
      by_cases hc : ((aheadN l col : Nat) : Int) < col
      · have hc2 : ¬ ((aheadN l col : Nat) : Int) < (l.length : Int) := by unfold aheadN at hc ⊢; omega
        generalize aheadN l col = m at hc hc2 hk hal hlt
        go_wp2
        go_ret
        exact ⟨rfl, rfl⟩
      · generalize aheadN l col = m at hc hk hal hlt
        go_wp2
        go_ret
        exact ⟨rfl, rfl⟩
end Go.Proofs.Ytmdghonefdmihag
