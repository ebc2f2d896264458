/-
  PROVED HERE: what the model's TxtLeast answers: how long the longest of a text's words is; nothing that was in memory is turned.
-/
import Derived.Test.YtgnaaeonklongaqWdCut
import Derived.Test.YtgnaaeonklongaqWdLeast
namespace Go.Proofs.Ytgnaaeonklongaq
open Go.RowKit

/-- words that lie in memory, read at a place -/
theorem wordsAt {w : World} {B : Nat} {v : Value} {l : List W30} (h : w.ownsRow B 9 1 v l.length (l.map (fun x => Value.string x.1))) {i : Nat} (hi : i < l.length) :
    ∃ g cap, v = .slice (some ⟨g, 0, none⟩) l.length cap ∧ l.length ≤ cap ∧ cap ≤ maxLen ∧ w.cell? ⟨g, i, none⟩ = some (.string l[i].1) := by
  have e : l.map (fun x => Value.string x.1) = (l.map (fun x => x.1)).map Value.string := by rw [List.map_map]; rfl
  have el : l.length = (l.map (fun x : W30 => x.1)).length := (List.length_map ..).symm
  rw [e, el] at h
  obtain ⟨g, cap, h1, h2, h3, h4⟩ := words_get h (i := i) (by rw [List.length_map]; exact hi)
  refine ⟨g, cap, by rw [el]; exact h1, by rw [el]; exact h2, h3, ?_⟩
  rw [h4]; simp
theorem words_form {w : World} {B : Nat} {v : Value} {l : List W30} (h : w.ownsRow B 9 1 v l.length (l.map (fun x => Value.string x.1))) : ∃ a cap, v = .slice a l.length cap := by
  rcases h.2 with ⟨hv, h0⟩ | ⟨g, cap, cur, hv, _⟩
  · exact ⟨none, 0, by rw [h0]; exact hv⟩
  · exact ⟨_, _, hv⟩
theorem leastOf_take {l : List W30} {k : Nat} (h : k < l.length) : leastOf (l.take (k + 1)) = max (leastOf (l.take k)) l[k].1.size := by
  rw [List.take_succ_eq_append_getElem h, leastOf_snoc]

set_option maxRecDepth 100000 in
set_option maxHeartbeats 1000000 in
theorem specTxtLeast (s : ByteArray) (hs : s.size ≤ maxLen) (w : World) :
    Calls Try.prog 18 #[.string s] w fun e w' => e = .returned (.int .i64 (leastOf (wordsW s))) ∧ Below w.heap.size w w' := by
  have hlen := wordsW_len s
  have HW := Hid.intro (specTxtWords s hs)
  generalize wordsW s = l at HW hlen ⊢
  go_enter Try.func18, Try.ntmps18
  go_wp2_with fail
  refine (HW.out _).mono ?_
  rintro e w1 ⟨v, rfl, hv, hb⟩
  have HV := Hid.intro hv
  have HB := Hid.intro hb
  obtain ⟨a, cap, rfl⟩ := words_form hv
  clear hv hb
  go_wp2_with fail
  go_loop [4, 5] (fun n i => ∃ k : Nat, k ≤ l.length ∧ i = .int .i64 k ∧ n = .int .i64 (leastOf (l.take k))) (fun _ i => l.length - (intOf i).toNat)
  case atStart => exact ⟨0, Nat.zero_le _, rfl, rfl⟩
  case round =>
    obtain ⟨k, hk, rfl, rfl⟩ := hrel
    by_cases hlt : k < l.length
    · obtain ⟨g, cap', e', h1, h2, hx⟩ := wordsAt HV.out hlt
      simp only [Value.slice.injEq, true_and] at e'
      obtain ⟨rfl, rfl⟩ := e'
      have HS := Hid.intro (leastOf_take hlt)
      have h3 := l[k].2
      have h4 := leastOf_le (l.take k)
      generalize l[k] = x at hx HS h3
      unfold maxLen at h2
      go_wp2_with (go_at_call 30; refine (l1Max_any _ _ _).mono ?_; rintro e w' ⟨rfl, rfl⟩)
      go_round
      case rel => exact ⟨k + 1, by omega, by go_num, by rw [HS.out]; go_num⟩
      case measure => simp [intOf]; omega
    · obtain rfl : k = l.length := by omega
      go_wp2
      go_ret
      exact ⟨rfl, HB.out⟩
end Go.Proofs.Ytgnaaeonklongaq
