/-
  PROVED HERE: what the program's WidAt answers of any list of numbers in memory; nothing in memory is turned.
-/
import Derived.Test.YtmdghonefdmihagSumW
namespace Go.Proofs.Ytmdghonefdmihag
open Go.RowKit

set_option maxRecDepth 100000 in
set_option maxHeartbeats 1000000 in
theorem implWidAt (v : Value) (l : List Int) (gap col : Int) (w : World) (h : IntsAt w v l) :
    Calls Try.prog 14 #[v, .int .i64 gap, .int .i64 col] w fun e w' => e = .returned (.int .i64 (atV l gap col)) ∧ w' = w := by
  obtain ⟨a, cap, rfl, hlen⟩ := h.form
  have hcap : l.length ≤ cap ∧ cap ≤ 9223372036854775807 := by
    obtain ⟨_, _, hv, h1, h2, _⟩ := h
    simp only [Value.slice.injEq] at hv
    obtain ⟨_, _, rfl⟩ := hv
    unfold maxLen at h2
    omega
  have HT := Hid.intro (fun m (hm : m ≤ l.length) => h.take hm)
  have HV : Hid (∀ m : Nat, aheadN l col = m → atV l gap col = wrap64 (wrap64 (l.take m).sum + wrap64 (gap * (m : Nat)))) := fun m hm => by rw [W_addl, W_addr, atV, hm]; rfl
  clear h
  by_cases h0 : col < 0
  · have HV0 := Hid.intro (HV.out 0 (by unfold aheadN; omega))
    have H := Hid.intro (HT.out 0 (Nat.zero_le _))
    clear HV HT
    go_enter Try.func14, Try.ntmps14
    go_wp2_with fail
    refine (implsumOfW _ _ _ H.out).mono ?_
    rintro e w1 ⟨rfl, rfl⟩
    go_wp2
    go_ret
    exact ⟨by rw [HV0.out]; simp [W_eq], rfl⟩
  · obtain ⟨k, rfl⟩ := Int.eq_ofNat_of_zero_le (show 0 ≤ col by omega)
    by_cases h1 : (k : Int) ≤ (l.length : Int)
    · have HV0 := Hid.intro (HV.out k (by unfold aheadN; omega))
      have H := Hid.intro (HT.out k (by omega))
      clear HV HT
      go_enter Try.func14, Try.ntmps14
      go_wp2_with fail
      refine (implsumOfW _ _ _ H.out).mono ?_
      rintro e w1 ⟨rfl, rfl⟩
      go_wp2
      go_ret
      exact ⟨by rw [HV0.out]; first | rfl | simp, rfl⟩
    · have HV0 := Hid.intro (HV.out l.length (by unfold aheadN; omega))
      have H := Hid.intro (HT.out l.length (Nat.le_refl _))
      clear HV HT
      go_enter Try.func14, Try.ntmps14
      go_wp2_with fail
      refine (implsumOfW _ _ _ H.out).mono ?_
      rintro e w1 ⟨rfl, rfl⟩
      go_wp2
      go_ret
      exact ⟨by rw [HV0.out]; first | rfl | simp, rfl⟩
end Go.Proofs.Ytmdghonefdmihag
