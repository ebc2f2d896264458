/-
  PROVED HERE: the laws' own pwTexts says true of one and the same list of texts in two places, of the first so many of a list too.
-/
import Derived.Test.YtgnaaeonklongamStrRow
import Derived.WalkLawsBesides
import Derived.WalkSpells
import Derived.Deep.QuietTactic
import Derived.BigQuiet
namespace Go.Proofs.Ytgnaaeonklongam
open Go.RowKit

/-- a list of texts that can be read -/
def RdS (w : World) (v : Value) (l : List ByteArray) : Prop :=
  ∃ a cap, v = .slice a l.length cap ∧ ∀ i, i < l.length → ∃ g, a = some ⟨g, 0, none⟩ ∧ l.length ≤ cap ∧ cap ≤ maxLen ∧ w.cell? ⟨g, i, none⟩ = some (.string (l.getD i eS))
theorem RowS.rd {w : World} {B : Nat} {v : Value} {l : List ByteArray} (h : RowS w B v l) : RdS w v l := by
  obtain ⟨a, cap, rfl⟩ := h.form
  refine ⟨a, cap, rfl, fun i hi => ?_⟩
  obtain ⟨g, cap', e, _, _, h1, h2, hx, _⟩ := h.get hi
  simp only [Value.slice.injEq, true_and] at e
  obtain ⟨rfl, rfl⟩ := e
  exact ⟨g, rfl, h1, h2, hx⟩
theorem RdS.take {w : World} {g n cap : Nat} {l : List ByteArray} (h : RdS w (.slice (some ⟨g, 0, none⟩) n cap) l) {k : Nat} (hk : k ≤ l.length) : RdS w (.slice (some ⟨g, 0, none⟩) k cap) (l.take k) := by
  obtain ⟨a, cap', e, h1⟩ := h
  simp only [Value.slice.injEq] at e
  obtain ⟨rfl, rfl, rfl⟩ := e
  have hl : (l.take k).length = k := by rw [List.length_take]; omega
  refine ⟨_, cap, by rw [hl], fun i hi => ?_⟩
  rw [hl] at hi
  obtain ⟨g', e, h2, h3, h4⟩ := h1 i (by omega)
  simp at e
  subst e
  refine ⟨_, rfl, by omega, h3, ?_⟩
  rw [h4]
  simp [List.getD, hi, show i < l.length by omega]

set_option maxRecDepth 100000 in
set_option maxHeartbeats 1000000 in
theorem pwRd_any (v1 v2 : Value) (l : List ByteArray) (w : World) (h1 : RdS w v1 l) (h2 : RdS w v2 l) :
    Calls Try.prog 7 #[v1, v2] w fun e w' => e = .returned (.bool true) ∧ ∃ n, w' = w.drewN n := by
  obtain ⟨a1, cap1, rfl, h1⟩ := h1
  obtain ⟨a2, cap2, rfl, h2⟩ := h2
  have hne : ((l.length : Int) != (l.length : Int)) = false := by simp
  have H1 := Hid.intro h1
  have H2 := Hid.intro h2
  clear h1 h2
  go_enter Try.func7, Try.ntmps7
  go_wp2_with fail
  go_loopw [5] (fun i W => ∃ k n : Nat, k ≤ l.length ∧ i = .int .i64 k ∧ W = w.drewN n) (fun i _ => l.length - (intOf i).toNat)
  case atStart => exact ⟨0, 0, Nat.zero_le _, rfl, rfl⟩
  case round =>
    obtain ⟨k, nd, hk, rfl, rfl⟩ := hrel
    by_cases hlt : k < l.length
    · obtain ⟨g1, rfl, hc11, hc12, x0⟩ := H1.out k hlt
      obtain ⟨g2, rfl, hc21, hc22, y0⟩ := H2.out k hlt
      unfold maxLen at hc12 hc22
      generalize l.getD k eS = x at x0 y0
      go_wp2_with fail
      go_quiet (fail)
      go_wp2
      go_roundw
      case rel => exact ⟨k + 1, nd + nq, by omega, by go_num, rfl⟩
      case measure => simp [intOf]; omega
    · go_wp2
      go_ret
      exact ⟨rfl, nd, rfl⟩
theorem pwRd_quiet (v1 v2 : Value) (l : List ByteArray) (w : World) (k : Nat) (h1 : RdS w v1 l) (h2 : RdS w v2 l) :
    Calls Try.prog 7 #[v1, v2] (w.drewN k) fun e w' => e = .returned (.bool true) ∧ ∃ n, w' = w.drewN n :=
  (pwRd_any v1 v2 l (w.drewN k) h1 h2).mono (fun _ _ ⟨he, n, hn⟩ => ⟨he, k + n, by rw [hn]; simp [World.drewN, Nat.add_assoc]⟩)
end Go.Proofs.Ytgnaaeonklongam
