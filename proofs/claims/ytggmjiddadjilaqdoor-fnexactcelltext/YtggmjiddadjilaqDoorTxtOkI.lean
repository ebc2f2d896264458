/-
  PROVED HERE: what the program's TxtOk answers at every string: the Bool 'txtOkB', and the memory is left as it was.
-/
import Derived.Test.YtggmjiddadjilaqDoorRows
import Derived.WalkKit
import Derived.ProofKit
import Derived.WalkLawsBesides
import Derived.WalkSpells
import Derived.Below
import Derived.Lib.Strings
namespace Go.Proofs.YtggmjiddadjilaqDoor
open Go.RowKit

/-- the i-th byte of a text, 0 past its end -/
def ch (s : ByteArray) (i : Nat) : Int := if h : i < s.size then (s[i].toNat : Int) else 0
def goodB (s : ByteArray) (i : Nat) : Bool := decide ((ch s i = 32 → i ≠ 0 ∧ i + 1 ≠ s.size ∧ ch s (i - 1) ≠ 32) ∧ (ch s i ≠ 32 → 97 ≤ ch s i ∧ ch s i ≤ 122))
def txtOkB (s : ByteArray) : Bool := decide (s.size ≤ 30) && (List.range s.size).all (goodB s)

theorem txtOkB_iff (s : ByteArray) : txtOkB s = true ↔ s.size ≤ 30 ∧ ∀ i, i < s.size → goodB s i = true := by
  simp [txtOkB, List.all_eq_true]
theorem txtOkB_long {s : ByteArray} (h : ¬ s.size ≤ 30) : txtOkB s = false := by simp [txtOkB, h]
theorem txtOkB_bad {s : ByteArray} (i : Nat) (hi : i < s.size) (h : goodB s i = false) : txtOkB s = false := by
  cases hb : txtOkB s with
  | false => rfl
  | true => rw [((txtOkB_iff s).1 hb).2 i hi] at h; cases h
theorem txtOkB_all {s : ByteArray} (h30 : s.size ≤ 30) (h : ∀ i, i < s.size → goodB s i = true) : txtOkB s = true := (txtOkB_iff s).2 ⟨h30, h⟩
theorem ch_at {s : ByteArray} {i : Nat} (h : i < s.size) : ch s i = (s[i].toNat : Int) := by simp [ch, h]
theorem next_all {s : ByteArray} {k : Nat} (h : ∀ j, j < k → goodB s j = true) (hk : goodB s k = true) : ∀ j, j < k + 1 → goodB s j = true := by
  intro j hj
  rcases Nat.lt_or_eq_of_le (Nat.lt_succ_iff.1 hj) with h1 | h1
  · exact h j h1
  · rw [h1]; exact hk
theorem toList_nil {s : ByteArray} (h : s.size = 0) : s.toList = [] := by
  rw [Lib.toList_data]; exact List.eq_nil_of_length_eq_zero (by simpa using h)
theorem size_nil {s : ByteArray} (h : s.toList = []) : s.size = 0 := by
  rw [Lib.toList_data] at h; have := congrArg List.length h; simpa using this
theorem ret_bool {a b : Bool} (h : a = b) : Ending.returned (.bool a) = .returned (.bool b) := by rw [h]

def bef (s : ByteArray) (k : Nat) : Int := if k = 0 then 32 else ch s (k - 1)
def goodI (s : ByteArray) (j : Nat) : Prop := (ch s j = 32 → bef s j ≠ 32) ∧ (ch s j ≠ 32 → 97 ≤ ch s j ∧ ch s j ≤ 122)
theorem goodI_next {s : ByteArray} {k : Nat} (h : ∀ j, j < k → goodI s j) (hk : goodI s k) : ∀ j, j < k + 1 → goodI s j := by
  intro j hj
  rcases Nat.lt_or_eq_of_le (Nat.lt_succ_iff.1 hj) with h1 | h1
  · exact h j h1
  · rw [h1]; exact hk
theorem txtOkB_badI {s : ByteArray} (k : Nat) (hk : k < s.size) (h : ¬ goodI s k) : txtOkB s = false := by
  refine txtOkB_bad k hk ?_
  unfold goodI bef at h
  unfold goodB
  rw [decide_eq_false_iff_not]
  intro ⟨h1, h2⟩
  apply h
  refine ⟨fun e => ?_, h2⟩
  obtain ⟨a, _, c⟩ := h1 e
  simp [a]; exact c
theorem txtOkB_endI {s : ByteArray} (h30 : s.size ≤ 30) (h : ∀ j, j < s.size → goodI s j) (hz : s.size ≠ 0) (hl : bef s s.size ≠ 32) : txtOkB s = true := by
  refine txtOkB_all h30 (fun i hi => ?_)
  have hg := h i hi
  unfold goodI bef at hg
  unfold bef at hl
  unfold goodB
  rw [decide_eq_true_iff]
  refine ⟨fun e => ?_, hg.2⟩
  have h1 := hg.1 e
  by_cases i0 : i = 0
  · simp [i0] at h1
  · simp [i0] at h1
    refine ⟨i0, fun he => ?_, h1⟩
    rw [if_neg hz, ← he] at hl
    simp at hl
    exact hl e
theorem txtOkB_emptyI {s : ByteArray} (hz : s.size = 0) : txtOkB s = true := txtOkB_all (by omega) (fun i hi => by omega)
theorem txtOkB_lastI {s : ByteArray} (hz : s.size ≠ 0) (hl : bef s s.size = 32) : txtOkB s = false := by
  refine txtOkB_bad (s.size - 1) (by omega) ?_
  unfold bef at hl
  rw [if_neg hz] at hl
  unfold goodB
  rw [decide_eq_false_iff_not]
  intro ⟨h1, _⟩
  exact (h1 hl).2.1 (by omega)
theorem bef_succ {s : ByteArray} {k : Nat} (h : k < s.size) : bef s (k + 1) = (s[k].toNat : Int) := by simp [bef, ch, h]

set_option maxRecDepth 100000 in
set_option maxHeartbeats 400000 in
theorem implTxtOk (s : ByteArray) (w : World) (hs : s.size ≤ maxLen) :
    Calls Tryd.prog 30 #[.string s] w fun e w' => e = .returned (.bool (txtOkB s)) ∧ w' = w := by
  unfold maxLen at hs
  by_cases h30 : s.size ≤ 30
  · go_enter Tryd.func30, Tryd.ntmps30
    go_wp2
    go_loop [3, 4, 10] (fun b _ i => ∃ (k : Nat) (B : Int), k ≤ s.size ∧ i = .int .i64 k ∧ b = .int .u8 B ∧ Hid (bef s k = B) ∧ Hid (∀ j, j < k → goodI s j)) (fun _ _ i => s.size - (intOf i).toNat)
    case atStart => exact ⟨0, 32, Nat.zero_le _, rfl, rfl, rfl, fun j hj => absurd hj (Nat.not_lt_zero _)⟩
    case round =>
      obtain ⟨k, B, hk, rfl, rfl, HBf, HA⟩ := hrel
      by_cases hlt : k < s.size
      · have hb : (s[k].toNat : Int) < 256 := by have := s[k].toNat_lt; omega
        have HC : Hid (ch s k = (s[k].toNat : Int)) := ch_at hlt
        have HS : Hid (bef s (k + 1) = (s[k].toNat : Int)) := bef_succ hlt
        by_cases hc : (s[k].toNat : Int) = 32
        · have hc' : ((s[k].toNat : Int) == 32) = true := beq_iff_eq.2 hc
          have hc2 : ((s[k].toNat : Int) != 32) = false := by rw [bne, hc']; rfl
          have HE : Hid (ch s k = 32) := HC.out.trans hc
          clear hc HC hb
          by_cases hB : B = 32
          · as_aux_lemma =>
              have hB' : (B == 32) = true := beq_iff_eq.2 hB
              have HF : Hid (txtOkB s = false) := txtOkB_badI k hlt (fun hg => hg.1 HE.out (HBf.out.trans hB))
              clear hB HE HBf HA HS
              go_wp2
              go_ret
              exact ⟨ret_bool HF.out.symm, rfl⟩
          · as_aux_lemma =>
              have hB' : (B == 32) = false := beq_eq_false_iff_ne.2 hB
              have HN : Hid (∀ j, j < k + 1 → goodI s j) := goodI_next HA.out ⟨fun _ => by rw [HBf.out]; exact hB, fun hne => absurd HE.out hne⟩
              clear hB HE HBf HA
              go_wp2
              go_round
              case rel => exact ⟨k + 1, _, by omega, by go_num, rfl, HS, HN⟩
              case measure => simp [intOf]; omega
        · have hc' : ((s[k].toNat : Int) == 32) = false := beq_eq_false_iff_ne.2 hc
          have hc2 : ((s[k].toNat : Int) != 32) = true := bne_iff_ne.2 hc
          by_cases hr : 97 ≤ (s[k].toNat : Int) ∧ (s[k].toNat : Int) ≤ 122
          · as_aux_lemma =>
              have HN : Hid (∀ j, j < k + 1 → goodI s j) := goodI_next HA.out ⟨fun he => absurd (HC.out.symm.trans he) hc, fun _ => by rw [HC.out]; exact hr⟩
              obtain ⟨hr1, hr2⟩ := hr
              clear HC HA hc HBf
              go_wp2
              go_round
              case rel => exact ⟨k + 1, _, by omega, by go_num, rfl, HS, HN⟩
              case measure => simp [intOf]; omega
          · have HF : Hid (txtOkB s = false) := txtOkB_badI k hlt (fun hg => hr (by have := hg.2 (by rw [HC.out]; exact hc); rw [HC.out] at this; exact this))
            clear HC HA hc HBf HS
            by_cases hr1 : 97 ≤ (s[k].toNat : Int)
            · as_aux_lemma =>
                have hr2 : ¬ (s[k].toNat : Int) ≤ 122 := by omega
                clear hr
                go_wp2
                go_ret
                exact ⟨ret_bool HF.out.symm, rfl⟩
            · as_aux_lemma =>
                clear hr
                go_wp2
                go_ret
                exact ⟨ret_bool HF.out.symm, rfl⟩
      · obtain rfl : k = s.size := by omega
        by_cases hz : s.size = 0
        · have he : s.toList = [] := toList_nil hz
          have HF : Hid (txtOkB s = true) := txtOkB_emptyI hz
          clear HBf HA
          go_wp2
          go_ret
          exact ⟨ret_bool HF.out.symm, rfl⟩
        · have he : ¬ s.toList = [] := fun h => hz (size_nil h)
          have he2 : s.toList.isEmpty = false := by simpa using he
          by_cases hB : B = 32
          · have hB' : (B != 32) = false := by simp [hB]
            have HF : Hid (txtOkB s = false) := txtOkB_lastI hz (HBf.out.trans hB)
            clear HBf HA hB hz he
            go_wp2
            go_ret
            exact ⟨ret_bool HF.out.symm, rfl⟩
          · have hB' : (B != 32) = true := bne_iff_ne.2 hB
            have HF : Hid (txtOkB s = true) := txtOkB_endI h30 HA.out hz (by rw [HBf.out]; exact hB)
            clear HBf HA hB hz he
            go_wp2
            go_ret
            exact ⟨ret_bool HF.out.symm, rfl⟩
  · go_enter Tryd.func30, Tryd.ntmps30
    go_wp2
    go_ret
    exact ⟨ret_bool (txtOkB_long h30).symm, rfl⟩
end Go.Proofs.YtggmjiddadjilaqDoor
