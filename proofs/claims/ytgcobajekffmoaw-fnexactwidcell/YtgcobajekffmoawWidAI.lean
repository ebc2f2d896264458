/-
  PROVED HERE: what the program's sumOf and WidAt answer of any list of numbers in memory; nothing in memory is turned.
-/
import Derived.Test.YtgcobajekffmoawWidB
import Derived.WalkLawsBesides
import Derived.WalkSpells
import Derived.Deep.RegionWith
import Derived.Deep.QuietTactic
import Derived.BigQuiet
namespace Go.Proofs.Ytgcobajekffmoaw
open Go.RowKit

set_option maxRecDepth 100000 in
set_option maxHeartbeats 1000000 in
theorem implsumOfW (v : Value) (l : List Int) (w : World) (h : IntsAt w v l) :
    Calls Try.prog 19 #[v] w fun e w' => e = .returned (.int .i64 (wrap64 l.sum)) ∧ w' = w := by
  obtain ⟨a, cap, rfl, hlen⟩ := h.form
  have H := Hid.intro h
  clear h
  go_enter Try.func19, Try.ntmps19
  go_wp2_with fail
  go_loop [3, 8] (fun s i => ∃ k : Nat, k ≤ l.length ∧ i = .int .i64 k ∧ s = .int .i64 (wrap64 (sumTo l k))) (fun _ i => l.length - (intOf i).toNat)
  case atStart => exact ⟨0, Nat.zero_le _, rfl, by simp [sumTo, W_eq]⟩
  case round =>
    obtain ⟨k, hk, rfl, rfl⟩ := hrel
    by_cases hlt : k < l.length
    · obtain ⟨b, off, cap', e', hc1, hc2, hbl, hx⟩ := H.out.get hlt
      simp only [Value.slice.injEq, true_and] at e'
      obtain ⟨rfl, rfl⟩ := e'
      have HS : Hid (wrap64 (wrap64 (sumTo l k) + l.getD k 0) = wrap64 (sumTo l (k + 1))) := by rw [Hid, sumTo_succ hlt, W_addl]
      generalize l.getD k 0 = x at hx HS
      generalize wrap64 (sumTo l k) = s at HS ⊢
      unfold maxLen at hc2
      go_wp2
      go_round
      case rel => exact ⟨k + 1, by omega, by go_num, by rw [← HS.out]⟩
      case measure => simp [intOf]; omega
    · obtain rfl : k = l.length := by omega
      have HE := Hid.intro (sumTo_all l)
      go_wp2
      go_ret
      exact ⟨by rw [← HE.out]; rfl, rfl⟩

set_option maxRecDepth 100000 in
set_option maxHeartbeats 1000000 in
theorem implWidAt (v : Value) (l : List Int) (gap col : Int) (w : World) (h : IntsAt w v l) :
    Calls Try.prog 18 #[v, .int .i64 gap, .int .i64 col] w fun e w' => e = .returned (.int .i64 (atV l gap col)) ∧ w' = w := by
  obtain ⟨a, cap, rfl, hlen⟩ := h.form
  have hcap : l.length ≤ cap ∧ cap ≤ 9223372036854775807 := by
    obtain ⟨_, _, hv, h1, h2, _⟩ := h
    simp only [Value.slice.injEq] at hv
    obtain ⟨_, _, rfl⟩ := hv
    unfold maxLen at h2
    omega
  have HT := Hid.intro (fun m (hm : m ≤ l.length) => h.take hm)
  have HV : Hid (∀ m : Nat, aheadN l col = m → atV l gap col = wrap64 (wrap64 (l.take m).sum + wrap64 (gap * (m : Nat)))) := fun m hm => by rw [W_addl, W_addr, atV, hm]; rfl
  clear h
  by_cases h0 : col < 0
  · have HV0 := Hid.intro (HV.out 0 (by unfold aheadN; omega))
    have H := Hid.intro (HT.out 0 (Nat.zero_le _))
    clear HV HT
    go_enter Try.func18, Try.ntmps18
    go_wp2_with fail
    refine (implsumOfW _ _ _ H.out).mono ?_
    rintro e w1 ⟨rfl, rfl⟩
    go_wp2
    go_ret
    exact ⟨by rw [HV0.out]; simp [W_eq], rfl⟩
  · obtain ⟨k, rfl⟩ := Int.eq_ofNat_of_zero_le (show 0 ≤ col by omega)
    by_cases h1 : (k : Int) ≤ (l.length : Int)
    · have HV0 := Hid.intro (HV.out k (by unfold aheadN; omega))
      have H := Hid.intro (HT.out k (by omega))
      clear HV HT
      go_enter Try.func18, Try.ntmps18
      go_wp2_with fail
      refine (implsumOfW _ _ _ H.out).mono ?_
      rintro e w1 ⟨rfl, rfl⟩
      go_wp2
      go_ret
      exact ⟨by rw [HV0.out]; first | rfl | simp, rfl⟩
    · have HV0 := Hid.intro (HV.out l.length (by unfold aheadN; omega))
      have H := Hid.intro (HT.out l.length (Nat.le_refl _))
      clear HV HT
      go_enter Try.func18, Try.ntmps18
      go_wp2_with fail
      refine (implsumOfW _ _ _ H.out).mono ?_
      rintro e w1 ⟨rfl, rfl⟩
      go_wp2
      go_ret
      exact ⟨by rw [HV0.out]; first | rfl | simp, rfl⟩
end Go.Proofs.Ytgcobajekffmoaw
