/-
  PROVED HERE: what the program's PagHigh answers of any slices in memory; nothing that was in memory is turned.
-/
import Derived.Test.YtfkkhfiiokhnaaiPagHB
import Derived.WalkLawsBesides
import Derived.WalkSpells
namespace Go.Proofs.Ytfkkhfiiokhnaai
open Go.RowKit

theorem implLines (x0 x1 x2 : Int) (w : World) :
    Calls Try.prog 9 #[.agg #[.int .i64 x0, .int .i64 x1, .int .i64 x2]] w fun e w' => e = .returned (.int .i64 (wrap64 (x2 - x1))) ∧ Below w.heap.size w w' := by
  go_enter Try.func9, Try.ntmps9
  go_wp2
  go_ret
  exact ⟨rfl, k_alloc (Below.refl _ _) _⟩

set_option maxRecDepth 100000 in
set_option maxHeartbeats 1000000 in
theorem implPagHigh (v : Value) (ps : List PgS) (w : World) {z : Nat} (h : PsAt w z v ps) :
    Calls Try.prog 5 #[v] w fun e w' => e = .returned (.int .i64 (highP ps)) ∧ Below w.heap.size w w' := by
  obtain ⟨a, cap, rfl, hlen⟩ := At.form h
  have H := Hid.intro h
  clear h
  go_enter Try.func5, Try.ntmps5
  go_wp2_with fail
  go_loopw [3, 8] (fun s i W => ∃ k : Nat, k ≤ ps.length ∧ i = .int .i64 k ∧ s = .int .i64 (wrap64 (hiTo ps k)) ∧ Hid (Below w.heap.size w W)) (fun _ i _ => ps.length - (intOf i).toNat)
  case atStart => exact ⟨0, Nat.zero_le _, rfl, by simp [hiTo, W_eq], Below.refl _ _⟩
  case round =>
    obtain ⟨k, hk, rfl, rfl, HB⟩ := hrel
    by_cases hlt : k < ps.length
    · obtain ⟨b, off, cap', e', hc1, hc2, hbl, hx⟩ := At.get (H.out.kept HB.out) hlt
      simp only [Value.slice.injEq, true_and] at e'
      obtain ⟨rfl, rfl⟩ := e'
      have HS := Hid.intro (hi_impl ps k)
      generalize ps.getD k dP = x at hx HS
      generalize wrap64 (hiTo ps k) = s at HS ⊢
      obtain ⟨x0, x1, x2⟩ := hx
      unfold maxLen at hc2
      go_wp2_with fail
      refine (implLines _ _ _ _).mono ?_
      rintro e w1 ⟨rfl, hb1⟩
      have HB1 := Hid.intro (k_trans (k_alloc HB.out _) hb1)
      clear hb1 x0 x1 x2
      generalize wrap64 (x.t - x.f) = y at HS ⊢
      go_wp2
      go_roundw
      case rel => exact ⟨k + 1, by omega, by go_num, by rw [← HS.out], HB1⟩
      case measure => simp [intOf]; omega
    · obtain rfl : k = ps.length := by omega
      go_wp2
      go_ret
      exact ⟨rfl, HB.out⟩
end Go.Proofs.Ytfkkhfiiokhnaai
