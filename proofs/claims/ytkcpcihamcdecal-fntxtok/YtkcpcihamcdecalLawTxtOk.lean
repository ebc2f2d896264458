/-
  PROVED HERE: the law FnTxtOk returns true at every code that lies in memory.
-/
import Derived.Test.YtkcpcihamcdecalDrawTxt
import Derived.Test.YtkcpcihamcdecalTxtOk
namespace Go.Proofs.Ytkcpcihamcdecal
open Go.RowKit

set_option maxRecDepth 100000 in
theorem drawTxtOk_any (a : Option Addr) (len cap : Nat) (w : World) (h : IsCode w a len cap) :
    Calls Try.prog 6 #[.slice a len cap] w fun e w' => ∃ s : ByteArray, e = .returned (.string s) ∧ s.size ≤ 61 ∧ Below w.heap.size w w' := by
  have HC := Hid.intro h
  clear h
  go_enter Try.func6, Try.ntmps6
  go_wp2_with fail
  refine (open_any _ _ _ _ HC.out).mono ?_
  rintro e w1 ⟨rfl, hR1, hb1⟩
  go_wp2_with fail
  refine (l20AnyText_any _ 0 _ (by omega) _ hR1 (by omega)).mono ?_
  rintro e w2 ⟨s, rfl, hs, hR2, hb2⟩
  go_wp2
  go_ret
  exact ⟨s, rfl, hs, hb1.trans (hb2.below hb1.size (Nat.le_refl _))⟩

/-- what the law's own loop has found when k bytes have been looked at -/
def okTo (s : ByteArray) (k : Nat) : Bool := decide (s.size ≤ 30) && (List.range k).all (goodB s)
theorem okTo_succ (s : ByteArray) (k : Nat) : okTo s (k + 1) = (okTo s k && goodB s k) := by
  unfold okTo; rw [List.range_succ, List.all_append]; simp [Bool.and_assoc]
theorem okTo_all (s : ByteArray) : okTo s s.size = txtOkB s := rfl
theorem abOk : txtOkB ⟨#[97, 32, 98]⟩ = true := by decide +kernel
theorem retB2 {a b : Bool} (h : a = b) : Value.bool a = .bool b := by rw [h]

set_option maxRecDepth 100000 in
set_option maxHeartbeats 2000000 in
theorem lawTxtOk (a : Option Addr) (len cap : Nat) (w : World) (h : IsCode w a len cap) :
    Calls Try.prog 3 #[.slice a len cap] w fun e w' => e = .returned (.bool true) ∧ Below w.heap.size w w' := by
  have HC := Hid.intro h
  have hlen : len ≤ maxLen := Nat.le_trans h.1 h.2.1
  unfold maxLen at hlen
  clear h
  by_cases hbig : (1048576 : Int) < (len : Int)
  · go_enter Try.func3, Try.ntmps3
    go_wp2
    go_ret
    exact ⟨rfl, Below.refl _ _⟩
  · go_enter Try.func3, Try.ntmps3
    go_wp2_with fail
    refine (drawTxtOk_any _ _ _ _ HC.out).mono ?_
    rintro e w1 ⟨s, rfl, hs, hb1⟩
    have HB1 := Hid.intro hb1
    have hm : s.size ≤ maxLen := by unfold maxLen; omega
    have hm := Hid.intro hm
    have ab := abOk
    clear hb1 HC
    go_wp2_with fail
    go_loop [4, 5, 6] (fun ok i _ => ∃ k : Nat, k ≤ s.size ∧ i = .int .i64 k ∧ ok = .bool (okTo s k)) (fun _ i _ => s.size - (intOf i).toNat)
    case atStart => exact ⟨0, Nat.zero_le _, rfl, by simp [okTo]; omega⟩
    case round =>
      obtain ⟨k, hk, rfl, rfl⟩ := hrel
      by_cases hlt : k < s.size
      · have hb : (s[k].toNat : Int) < 256 := by have := s[k].toNat_lt; omega
        have HCk : Hid (ch s k = (s[k].toNat : Int)) := ch_at hlt
        have HS := Hid.intro (okTo_succ s k)
        by_cases hl : (97 : Int) ≤ (s[k].toNat : Int) ∧ (s[k].toNat : Int) ≤ 122
        · obtain ⟨hl1, hl2⟩ := hl
          have HG : Hid (okTo s (k + 1) = okTo s k) := by
            have : goodB s k = true := by simp [goodB, HCk.out]; omega
            show okTo s (k + 1) = _; rw [HS.out, this, Bool.and_true]
          clear HCk HS
          cases hok : okTo s k
          all_goals
            go_wp2
            go_round
            case rel => exact ⟨k + 1, by omega, by go_num, retB2 (by rw [HG.out, hok])⟩
            case measure => simp [intOf]; omega
        · cases hok : okTo s k
          · have HG : Hid (okTo s (k + 1) = false) := by show okTo s (k + 1) = _; rw [HS.out, hok]; rfl
            clear HCk HS
            by_cases hl1 : (97 : Int) ≤ (s[k].toNat : Int)
            · have hl2 : ¬ (s[k].toNat : Int) ≤ 122 := by omega
              clear hl
              go_wp2
              go_round
              case rel => exact ⟨k + 1, by omega, by go_num, retB2 HG.out.symm⟩
              case measure => simp [intOf]; omega
            · clear hl
              go_wp2
              go_round
              case rel => exact ⟨k + 1, by omega, by go_num, retB2 HG.out.symm⟩
              case measure => simp [intOf]; omega
          · by_cases hc : (s[k].toNat : Int) = 32
            · have hc' : ((s[k].toNat : Int) == 32) = true := beq_iff_eq.2 hc
              have hl1 : ¬ (97 : Int) ≤ (s[k].toNat : Int) := by omega
              have HE : Hid (ch s k = 32) := HCk.out.trans hc
              clear hl hc HCk
              by_cases h0 : k = 0
              · subst h0
                have HG : Hid (okTo s (0 + 1) = false) := by show okTo s (0 + 1) = _; rw [HS.out]; simp [goodB, HE.out]
                clear HS HE
                go_wp2
                go_round
                case rel => exact ⟨0 + 1, by omega, by go_num, retB2 HG.out.symm⟩
                case measure => simp [intOf]; omega
              · have h0' : (0 : Int) < (k : Int) := by omega
                by_cases h1 : k + 1 < s.size
                · have h1' : (k : Int) < (s.size : Int) - 1 := by omega
                  have hl2 : k - 1 < s.size := by omega
                  have HP : Hid (ch s (k - 1) = (s[k - 1].toNat : Int)) := ch_at hl2
                  by_cases hp : (s[k - 1].toNat : Int) = 32
                  · have hp' : ((s[k - 1].toNat : Int) != 32) = false := by simp [hp]
                    have HG : Hid (okTo s (k + 1) = false) := by show okTo s (k + 1) = _; rw [HS.out]; simp [goodB, HE.out, HP.out, hp]
                    clear HS HE HP hp
                    go_wp2
                    go_round
                    case rel => exact ⟨k + 1, by omega, by go_num, retB2 HG.out.symm⟩
                    case measure => simp [intOf]; omega
                  · have hp' : ((s[k - 1].toNat : Int) != 32) = true := bne_iff_ne.2 hp
                    have HG : Hid (okTo s (k + 1) = true) := by
                      have h1n : ¬ k + 1 = s.size := by omega
                      show okTo s (k + 1) = _; rw [HS.out, hok]; simp [goodB, HE.out, HP.out, hp, h0, h1n]
                    clear HS HE HP hp
                    go_wp2
                    go_round
                    case rel => exact ⟨k + 1, by omega, by go_num, retB2 HG.out.symm⟩
                    case measure => simp [intOf]; omega
                · have h1' : ¬ (k : Int) < (s.size : Int) - 1 := by omega
                  have HG : Hid (okTo s (k + 1) = false) := by
                    have h1e : k + 1 = s.size := by omega
                    show okTo s (k + 1) = _; rw [HS.out]; simp [goodB, HE.out, h1e]
                  clear HS HE
                  go_wp2
                  go_round
                  case rel => exact ⟨k + 1, by omega, by go_num, retB2 HG.out.symm⟩
                  case measure => simp [intOf]; omega
            · have hc' : ((s[k].toNat : Int) == 32) = false := beq_eq_false_iff_ne.2 hc
              have HG : Hid (okTo s (k + 1) = false) := by
                have : goodB s k = false := by simp [goodB, HCk.out]; omega
                show okTo s (k + 1) = _; rw [HS.out, this, Bool.and_false]
              clear HCk HS hc
              by_cases hl1 : (97 : Int) ≤ (s[k].toNat : Int)
              · have hl2 : ¬ (s[k].toNat : Int) ≤ 122 := by omega
                clear hl
                go_wp2
                go_round
                case rel => exact ⟨k + 1, by omega, by go_num, retB2 HG.out.symm⟩
                case measure => simp [intOf]; omega
              · clear hl
                go_wp2
                go_round
                case rel => exact ⟨k + 1, by omega, by go_num, retB2 HG.out.symm⟩
                case measure => simp [intOf]; omega
      · obtain rfl : k = s.size := by omega
        rw [okTo_all]
        go_wp2_with (first | (go_at_call 8; refine (specTxtOk _ _ hm.out).mono ?_; rintro e w' ⟨rfl, rfl⟩) | (go_at_call_of 7 s; refine (implTxtOk s _ hm.out).mono ?_; rintro e w' ⟨rfl, rfl⟩) | (go_at_call 7; refine (implTxtOk ⟨#[97, 32, 98]⟩ _ (by decide)).mono ?_; rintro e w' ⟨rfl, rfl⟩))
        go_ret
        exact ⟨rfl, HB1.out⟩
end Go.Proofs.Ytkcpcihamcdecal
