/-
  PROVED HERE: what the model's TxtOk answers at every text; nothing that was in memory is turned.
-/
import Derived.Test.YtggmjiddadjilaqDoorTxtOkI
namespace Go.Proofs.YtggmjiddadjilaqDoor
open Go.RowKit

set_option maxRecDepth 100000 in
set_option maxHeartbeats 400000 in
theorem specTxtOk (s : ByteArray) (w : World) (hs : s.size ≤ maxLen) :
    Calls Tryd.prog 25 #[.string s] w fun e w' => e = .returned (.bool (txtOkB s)) ∧ w' = w := by
  unfold maxLen at hs
  by_cases h30 : s.size ≤ 30
  · go_enter Tryd.func25, Tryd.ntmps25
    go_wp2
    go_loop [3] (fun i => ∃ k : Nat, k ≤ s.size ∧ i = .int .i64 k ∧ ∀ j, j < k → goodB s j = true) (fun i => s.size - (intOf i).toNat)
    case atStart => exact ⟨0, Nat.zero_le _, rfl, fun j hj => absurd hj (Nat.not_lt_zero _)⟩
    case round =>
      obtain ⟨k, hk, rfl, hall0⟩ := hrel
      have HA : Hid (∀ j, j < k → goodB s j = true) := hall0
      clear hall0
      by_cases hlt : k < s.size
      · have hb : (s[k].toNat : Int) < 256 := by have := s[k].toNat_lt; omega
        have HC : Hid (ch s k = (s[k].toNat : Int)) := ch_at hlt
        by_cases hc : (s[k].toNat : Int) = 32
        · have hc' : ((s[k].toNat : Int) == 32) = true := beq_iff_eq.2 hc
          have HE : Hid (ch s k = 32) := HC.out.trans hc
          clear hc HC hb
          by_cases h0 : k = 0
          · as_aux_lemma =>
              subst h0
              have hbad : goodB s 0 = false := by simp [goodB, HE.out]
              have HB : Hid (txtOkB s = false) := txtOkB_bad 0 hlt hbad
              clear hbad HE HA
              go_wp2
              go_ret
              exact ⟨ret_bool HB.out.symm, rfl⟩
          · have h0' : ((k : Int) == 0) = false := beq_eq_false_iff_ne.2 (by omega)
            by_cases h1 : k + 1 = s.size
            · as_aux_lemma =>
                have h1' : ((k : Int) == (s.size : Int) - 1) = true := beq_iff_eq.2 (by omega)
                have hbad : goodB s k = false := by simp [goodB, HE.out, h1]
                have HB : Hid (txtOkB s = false) := txtOkB_bad k hlt hbad
                clear hbad HE HA h1 h0
                go_wp2
                go_ret
                exact ⟨ret_bool HB.out.symm, rfl⟩
            · have h1' : ((k : Int) == (s.size : Int) - 1) = false := beq_eq_false_iff_ne.2 (by omega)
              have hl2 : k - 1 < s.size := by omega
              have HP : Hid (ch s (k - 1) = (s[k - 1].toNat : Int)) := ch_at hl2
              by_cases hp : (s[k - 1].toNat : Int) = 32
              · as_aux_lemma =>
                  have hp' : ((s[k - 1].toNat : Int) == 32) = true := beq_iff_eq.2 hp
                  have hbad : goodB s k = false := by simp [goodB, HE.out, HP.out, hp]
                  have HB : Hid (txtOkB s = false) := txtOkB_bad k hlt hbad
                  clear hbad HE HA HP hp
                  go_wp2
                  go_ret
                  exact ⟨ret_bool HB.out.symm, rfl⟩
              · as_aux_lemma =>
                  have hp' : ((s[k - 1].toNat : Int) == 32) = false := beq_eq_false_iff_ne.2 hp
                  have hc2 : ((s[k].toNat : Int) != 32) = false := by rw [bne, hc']; rfl
                  have hgood : goodB s k = true := by simp [goodB, HE.out, HP.out, hp, h0, h1]
                  have HN : Hid (∀ j, j < k + 1 → goodB s j = true) := next_all HA.out hgood
                  clear hgood HE HA HP hp
                  go_wp2
                  go_round
                  case rel => exact ⟨k + 1, by omega, by go_num, HN.out⟩
                  case measure => simp [intOf]; omega
        · have hc' : ((s[k].toNat : Int) == 32) = false := beq_eq_false_iff_ne.2 hc
          have hc2 : ((s[k].toNat : Int) != 32) = true := bne_iff_ne.2 hc
          by_cases hr : 97 ≤ (s[k].toNat : Int) ∧ (s[k].toNat : Int) ≤ 122
          · as_aux_lemma =>
              obtain ⟨hr1, hr2⟩ := hr
              have hgood : goodB s k = true := by simp [goodB, HC.out]; omega
              have HN : Hid (∀ j, j < k + 1 → goodB s j = true) := next_all HA.out hgood
              clear hgood HC HA hc
              go_wp2
              go_round
              case rel => exact ⟨k + 1, by omega, by go_num, HN.out⟩
              case measure => simp [intOf]; omega
          · have hbad : goodB s k = false := by simp [goodB, HC.out]; omega
            have HB : Hid (txtOkB s = false) := txtOkB_bad k hlt hbad
            clear hbad HC HA hc
            by_cases hr1 : 97 ≤ (s[k].toNat : Int)
            · as_aux_lemma =>
                have hr2 : ¬ (s[k].toNat : Int) ≤ 122 := by omega
                clear hr
                go_wp2
                go_ret
                exact ⟨ret_bool HB.out.symm, rfl⟩
            · as_aux_lemma =>
                clear hr
                go_wp2
                go_ret
                exact ⟨ret_bool HB.out.symm, rfl⟩
      · go_wp2
        go_ret
        exact ⟨ret_bool (txtOkB_all h30 (fun i hi => HA.out i (by omega))).symm, rfl⟩
  · go_enter Tryd.func25, Tryd.ntmps25
    go_wp2
    go_ret
    exact ⟨ret_bool (txtOkB_long h30).symm, rfl⟩
end Go.Proofs.YtggmjiddadjilaqDoor
