/-
  PROVED HERE: the law FnShrDue returns true at every code that lies in memory.
-/
import Derived.Test.YtfkfgmfahoeaoadDrawShr
import Derived.Test.YtfkfgmfahoeaoadShrTh
import Derived.Test.YtfkfgmfahoeaoadPwInts
import Derived.Test.YtfkfgmfahoeaoadPwOk
namespace Go.Proofs.Ytfkfgmfahoeaoad
open Go.RowKit

set_option maxRecDepth 100000 in
set_option maxHeartbeats 2000000 in
theorem lawShrDue (a : Option Addr) (len cap : Nat) (w : World) (h : IsCode w a len cap) :
    Calls Try.prog 6 #[.slice a len cap] w fun e w' => e = .returned (.bool true) ∧ Below w.heap.size w w' := by
  have hlen : len ≤ 9223372036854775807 := by have h1 := h.1; have h2 := h.2.1; unfold maxLen at h2; omega
  have HC := Hid.intro h
  clear h
  by_cases hbig : (1048576 : Int) < (len : Int)
  · go_enter Try.func6, Try.ntmps6
    go_wp2
    go_ret
    exact ⟨rfl, Below.refl _ _⟩
  · go_enter Try.func6, Try.ntmps6
    go_wp2_with fail
    refine (drawShrDue_any _ _ _ _ HC.out).mono ?_
    rintro e w1 ⟨t, aa, cc, l, k, rfl, ht1, ht2, hl, _, hr1, hb1⟩
    have R1 := Hid.intro hr1.at
    have K1 := Hid.intro hb1
    have HI := Hid.intro (fun q W => implShrDue t (.slice aa l.length cc) l q W)
    have HS := Hid.intro (fun q W => specShrDue t (.slice aa l.length cc) l q W)
    have HO := Hid.intro (fun W => specShrOk t (.slice aa l.length cc) l W)
    have hkk : (dueV t l k != dueV t l k) = false := by simp
    clear hr1 hb1
    go_wp2_with fail
    refine (HI.out _ _ R1.out).mono ?_
    rintro e w2 ⟨rfl, e2⟩
    cases e2
    go_wp2_with fail
    refine (HS.out _ _ R1.out).mono ?_
    rintro e w2 ⟨rfl, n2, e2⟩
    have R2 : Hid (IntsAt w2 (.slice aa l.length cc) l) := by rw [e2]; exact R1.out
    have K2 : Hid (Below w.heap.size w w2) := by rw [e2]; exact k_drewN K1.out n2
    clear e2 R1 K1
    generalize dueV t l k = dk at hkk
    go_wp2_with fail
    go_loop [6, 7] (fun s i => ∃ k : Nat, k ≤ l.length ∧ i = .int .i64 k ∧ s = .int .i64 (dueTo t l k)) (fun _ i => l.length - (intOf i).toNat)
    case atStart => exact ⟨0, Nat.zero_le _, rfl, rfl⟩
    case round =>
      obtain ⟨k, hk, rfl, rfl⟩ := hrel
      by_cases hlt : k < l.length
      · have hb1 := dueTo_wide (t := t) (l := l) k
        have hb2 := dueV_bounds (t := t) (l := l) k
        have HS1 : Hid (dueTo t l (k + 1) = dueTo t l k + dueV t l k) := rfl
        have hkb : (k : Int) ≤ 8 := by omega
        go_wp2_with fail
        refine (HI.out _ _ R2.out).mono ?_
        rintro e w2 ⟨rfl, e2⟩
        cases e2
        generalize dueTo t l k = s at HS1 hb1
        generalize dueV t l k = y at HS1 hb2
        go_wp2
        go_round
        case rel => exact ⟨k + 1, by omega, by go_num, by rw [HS1.out]⟩
        case measure => simp [intOf]; omega
      · obtain rfl : k = l.length := by omega
        go_wp2_with fail
        refine (HO.out _ R2.out).mono ?_
        rintro e w2 ⟨rfl, e2⟩
        cases e2
        by_cases hok : shrOkB t l = true
        · obtain ⟨_, _, hw⟩ := shrOk_parts hok
          rw [hok]
          have HP := Hid.intro (fun W => lawspwSum_any (.slice aa l.length cc) l (by omega) hw W)
          have hs0 := (sum_bound hw).1
          go_wp2_with fail
          refine (HP.out _ R2.out).mono ?_
          rintro e w2 ⟨rfl, e2⟩
          cases e2
          by_cases hz : l.sum = 0
          · rw [dueTo_none (.inr hz) l.length, hz]
            go_wp2_with fail
            refine (pwOk_any _).mono ?_
            rintro e w2 ⟨rfl, e2⟩
            cases e2
            go_wp2
            go_ret
            exact ⟨rfl, K2.out⟩
          · have hz' : (l.sum == 0) = false := by simpa using hz
            obtain ⟨d1, d2⟩ := dueTo_bounds hok (by omega)
            have e1 := due_no (t := t) (l := l) (k := -1) (.inr (.inl (inB_false (by omega))))
            have e2 := due_no (t := t) (l := l) (k := l.length) (.inr (.inl (inB_false (by omega))))
            have d3 : ¬ t < dueTo t l l.length := by omega
            have d4 := dueTo_wide (t := t) (l := l) l.length
            generalize dueTo t l l.length = d at d1 d2 d3 d4
            go_wp2_with fail
            refine (HI.out _ _ R2.out).mono ?_
            rintro e w2 ⟨rfl, e3⟩
            cases e3
            rw [e1]
            go_wp2_with fail
            refine (HI.out _ _ R2.out).mono ?_
            rintro e w2 ⟨rfl, e3⟩
            cases e3
            rw [e2]
            go_wp2
            go_ret
            exact ⟨rfl, K2.out⟩
        · have hok' := eq_false_of_ne_true hok
          rw [hok', dueTo_none (.inl hok') l.length]
          go_wp2_with fail
          refine (pwOk_any _).mono ?_
          rintro e w2 ⟨rfl, e2⟩
          cases e2
          go_wp2
          go_ret
          exact ⟨rfl, K2.out⟩
end Go.Proofs.Ytfkfgmfahoeaoad
