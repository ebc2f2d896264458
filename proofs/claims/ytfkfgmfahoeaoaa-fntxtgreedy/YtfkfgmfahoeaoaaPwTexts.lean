/-
  PROVED HERE: the laws' own pwTexts says true of one and the same list of texts in two places, and words are a list of texts in memory.
-/
import Derived.Test.YtfkfgmfahoeaoaaStrsC
import Derived.Test.YtfkfgmfahoeaoaaWdCut
namespace Go.Proofs.Ytfkfgmfahoeaoaa
open Go.RowKit

theorem strs_of_words {w : World} {B : Nat} {v : Value} {l : List W30} (h : w.ownsRow B 9 1 v l.length (l.map (fun x => Value.string x.1))) : StrsAt w B v (l.map (fun x => x.1)) := by
  have el : (l.map (fun x : W30 => x.1)).length = l.length := List.length_map ..
  unfold StrsAt
  rw [el]
  rcases h.2 with ⟨hv, h0⟩ | ⟨g, cap, cur, hv, hb, hg, h1, h2, h3, h4⟩
  · exact ⟨none, 0, by rw [h0]; exact hv, by omega, Nat.zero_le _, fun i hi => by omega⟩
  · refine ⟨some ⟨g, 0, none⟩, cap, hv, h1, h2, fun i hi => ⟨g, 0, rfl, (Array.getElem?_eq_some_iff.1 hg).1, hb, ?_, ?_⟩⟩
    · obtain ⟨g', cap', e', _, _, hx⟩ := wordsAt h hi
      rw [hv] at e'
      simp only [Value.slice.injEq, Option.some.injEq, Addr.mk.injEq, and_true] at e'
      obtain ⟨rfl, _⟩ := e'
      rw [Nat.zero_add, Nat.mul_one, hx]
      simp [List.getD, hi]
    · have := l[i].2
      unfold maxLen
      simp [List.getD, hi]
      omega
set_option maxRecDepth 100000 in
set_option maxHeartbeats 1000000 in
theorem pwTexts_any (v1 v2 : Value) (ss : List ByteArray) (w : World) {z1 z2 : Nat} (h1 : StrsAt w z1 v1 ss) (h2 : StrsAt w z2 v2 ss) :
    Calls Try.prog 11 #[v1, v2] w fun e w' => e = .returned (.bool true) ∧ ∃ n, w' = w.drewN n := by
  obtain ⟨a1, cap1, rfl, hlen⟩ := At.form h1
  obtain ⟨a2, cap2, rfl, _⟩ := At.form h2
  unfold maxLen at hlen
  have hne : ((ss.length : Int) != (ss.length : Int)) = false := by simp
  have H1 := Hid.intro h1
  have H2 := Hid.intro h2
  clear h1 h2
  go_enter Try.func11, Try.ntmps11
  go_wp2_with fail
  go_loopw [5] (fun i W => ∃ k n : Nat, k ≤ ss.length ∧ i = .int .i64 k ∧ W = w.drewN n) (fun i _ => ss.length - (intOf i).toNat)
  case atStart => exact ⟨0, 0, Nat.zero_le _, rfl, rfl⟩
  case round =>
    obtain ⟨k, nd, hk, rfl, rfl⟩ := hrel
    by_cases hlt : k < ss.length
    · obtain ⟨b1, off1, cap1', e1, hc11, hc12, hbl1, x0, _⟩ := At.get H1.out hlt
      simp only [Value.slice.injEq, true_and] at e1
      obtain ⟨rfl, rfl⟩ := e1
      obtain ⟨b2, off2, cap2', e2, hc21, hc22, hbl2, y0, _⟩ := At.get H2.out hlt
      simp only [Value.slice.injEq, true_and] at e2
      obtain ⟨rfl, rfl⟩ := e2
      unfold maxLen at hc12 hc22
      rw [Nat.mul_one] at x0 y0
      generalize ss.getD k dS = x at x0 y0
      go_wp2_with fail
      go_quiet (fail)
      go_wp2
      go_roundw
      case rel => exact ⟨k + 1, nd + nq, by omega, by go_num, rfl⟩
      case measure => simp [intOf]; omega
    · go_wp2
      go_ret
      exact ⟨rfl, nd, rfl⟩
end Go.Proofs.Ytfkfgmfahoeaoaa
