/-
  PROVED HERE: what the model's TxtLeast answers: how long the longest of a text's words is; nothing that was in memory is turned.
-/
import Derived.Test.YtfkfgmfahoeaoaaWdCut
import Derived.Test.YtfkfgmfahoeaoaaWdLeast
namespace Go.Proofs.Ytfkfgmfahoeaoaa
open Go.RowKit

/-- the model's l1Max -/
theorem l1Max_any (a b : Int) (w : World) : Calls Try.prog 41 #[.int .i64 a, .int .i64 b] w fun e w' => e = .returned (.int .i64 (max a b)) ∧ w' = w := by
  by_cases h : b < a
  · have e : max a b = a := by omega
    rw [e]
    go_enter Try.func41, Try.ntmps41
    go_wp2
    go_ret
    exact ⟨rfl, rfl⟩
  · have e : max a b = b := by omega
    rw [e]
    go_enter Try.func41, Try.ntmps41
    go_wp2
    go_ret
    exact ⟨rfl, rfl⟩
theorem leastOf_take {l : List W30} {k : Nat} (h : k < l.length) : leastOf (l.take (k + 1)) = max (leastOf (l.take k)) l[k].1.size := by
  rw [List.take_succ_eq_append_getElem h, leastOf_snoc]

set_option maxRecDepth 100000 in
set_option maxHeartbeats 1000000 in
theorem specTxtLeast (s : ByteArray) (hs : s.size ≤ maxLen) (w : World) :
    Calls Try.prog 26 #[.string s] w fun e w' => e = .returned (.int .i64 (leastOf (wordsW s))) ∧ Below w.heap.size w w' := by
  have hlen := wordsW_len s
  have HW := Hid.intro (specTxtWords s hs)
  generalize wordsW s = l at HW hlen ⊢
  go_enter Try.func26, Try.ntmps26
  go_wp2_with fail
  refine (HW.out _).mono ?_
  rintro e w1 ⟨v, rfl, hv, hb⟩
  have HV := Hid.intro hv
  have HB := Hid.intro hb
  obtain ⟨a, cap, rfl⟩ := words_form hv
  clear hv hb
  go_wp2_with fail
  go_loop [4, 5] (fun n i => ∃ k : Nat, k ≤ l.length ∧ i = .int .i64 k ∧ n = .int .i64 (leastOf (l.take k))) (fun _ i => l.length - (intOf i).toNat)
  case atStart => exact ⟨0, Nat.zero_le _, rfl, rfl⟩
  case round =>
    obtain ⟨k, hk, rfl, rfl⟩ := hrel
    by_cases hlt : k < l.length
    · obtain ⟨g, cap', e', h1, h2, hx⟩ := wordsAt HV.out hlt
      simp only [Value.slice.injEq, true_and] at e'
      obtain ⟨rfl, rfl⟩ := e'
      have HS := Hid.intro (leastOf_take hlt)
      have h3 := l[k].2
      have h4 := leastOf_le (l.take k)
      generalize l[k] = x at hx HS h3
      unfold maxLen at h2
      go_wp2_with (go_at_call 41; refine (l1Max_any _ _ _).mono ?_; rintro e w' ⟨rfl, rfl⟩)
      go_round
      case rel => exact ⟨k + 1, by omega, by go_num, by rw [HS.out]; go_num⟩
      case measure => simp [intOf]; omega
    · obtain rfl : k = l.length := by omega
      go_wp2
      go_ret
      exact ⟨rfl, HB.out⟩
end Go.Proofs.Ytfkfgmfahoeaoaa
