/-
  PROVED HERE: what the laws' own markIntS and heldIntS answer of a list of numbers that owns its memory; what lies in other blocks is not turned.
-/
import Derived.Test.YtfkkhfiiokhnaatInts
import Derived.Deep.RegionWith
namespace Go.Proofs.Ytfkkhfiiokhnaat
open Go.RowKit

/-- the first i of a list turned to marks -/
def markedI (l : List Int) (i : Nat) : List Int := (List.range i).map (fun j : Nat => 1 + (j : Int)) ++ l.drop i
theorem markedI_len {l : List Int} {i : Nat} (h : i ≤ l.length) : (markedI l i).length = l.length := by simp [markedI]; omega
theorem markedI_zero (l : List Int) : markedI l 0 = l := by simp [markedI]
theorem markedI_next {l : List Int} {i : Nat} (h : i < l.length) : (markedI l i).set i (1 + (i : Int)) = markedI l (i + 1) := by
  unfold markedI
  rw [List.set_append_right _ _ (by simp), List.range_succ, List.map_append]
  simp only [List.length_map, List.length_range, Nat.sub_self, List.map_cons, List.map_nil, List.append_assoc]
  rw [List.drop_eq_getElem_cons h]
  rfl
theorem markedI_get {l : List Int} {i : Nat} (h : i < l.length) : (markedI l l.length).getD i 0 = 1 + (i : Int) := by
  simp [markedI, List.getD, h]

set_option maxRecDepth 100000 in
set_option maxHeartbeats 1000000 in
theorem markIntS_any (v : Value) (l : List Int) (hl : l.length ≤ 1048576) (B D : Nat) (w : World) (h : RowI w B D v l) :
    Calls Try.prog 18 #[v, .int .i64 1] w fun e w' => e = .returned (.int .i64 (1 + (l.length : Int))) ∧ RowI w' B D v (markedI l l.length) ∧ Out B D w w' := by
  obtain ⟨a, cap, rfl⟩ := h.form
  go_enter Try.func18, Try.ntmps18
  go_wp2_with fail
  go_loopw [1, 5] (fun q i W => ∃ k : Nat, k ≤ l.length ∧ i = .int .i64 k ∧ q = .int .i64 (1 + (k : Int)) ∧ Hid (RowI W B D (.slice a l.length cap) (markedI l k)) ∧ Hid (Out B D w W)) (fun _ i _ => l.length - (intOf i).toNat)
  case atStart => exact ⟨0, Nat.zero_le _, rfl, by simp, by rw [markedI_zero]; exact h, Out.refl _ _ _⟩
  case round =>
    obtain ⟨k, hk, rfl, rfl, HR, HB⟩ := hrel
    by_cases hlt : k < l.length
    · have hml := markedI_len hk
      obtain ⟨g, cap', e', hg, hgd, hgs, h1, h2, hx, hf⟩ := HR.out.get (i := k) (by omega)
      rw [hml] at e' h1
      simp only [Value.slice.injEq, true_and] at e'
      obtain ⟨rfl, rfl⟩ := e'
      have HN := Hid.intro (markedI_next hlt)
      have HR1 := Hid.intro (HR.out.set (i := k) (by omega) (1 + (k : Int)))
      have HB1 := Hid.intro (HB.out.set (p := ⟨g, k, none⟩) hg hgd (.int .i64 (1 + (k : Int))))
      unfold maxLen at h2
      generalize (markedI l k).getD k 0 = y at hx
      clear hml
      go_wp2
      go_roundw
      case rel => exact ⟨k + 1, by omega, by go_num, by go_num, by rw [← HN.out]; exact HR1, HB1⟩
      case measure => simp [intOf]; omega
    · obtain rfl : k = l.length := by omega
      go_wp2
      go_ret
      exact ⟨rfl, HR.out, HB.out⟩

set_option maxRecDepth 100000 in
set_option maxHeartbeats 1000000 in
theorem heldIntS_any (v : Value) (l : List Int) (hl : l.length ≤ 1048576) (B D : Nat) (w : World) (h : RowI w B D v (markedI l l.length)) :
    Calls Try.prog 19 #[v, .int .i64 1] w fun e w' => e = .returned (.int .i64 (1 + (l.length : Int))) ∧ ∃ n, w' = w.drewN n := by
  obtain ⟨a, cap, rfl⟩ := h.form
  have hml := markedI_len (l := l) (Nat.le_refl _)
  rw [hml]
  have H := Hid.intro h
  have HML := Hid.intro hml
  clear h hml
  go_enter Try.func19, Try.ntmps19
  go_wp2_with fail
  go_loopw [1, 5] (fun q i W => ∃ k n : Nat, k ≤ l.length ∧ i = .int .i64 k ∧ q = .int .i64 (1 + (k : Int)) ∧ W = w.drewN n) (fun _ i _ => l.length - (intOf i).toNat)
  case atStart => exact ⟨0, 0, Nat.zero_le _, rfl, by simp, rfl⟩
  case round =>
    obtain ⟨k, nd, hk, rfl, rfl, rfl⟩ := hrel
    by_cases hlt : k < l.length
    · obtain ⟨g, cap', e', hg, _, hgs, h1, h2, hx, _⟩ := H.out.get (i := k) (by rw [HML.out]; exact hlt)
      rw [HML.out] at e' h1
      simp only [Value.slice.injEq, true_and] at e'
      obtain ⟨rfl, rfl⟩ := e'
      rw [markedI_get hlt] at hx
      unfold maxLen at h2
      have hne : ((1 + (k : Int)) != (1 + (k : Int))) = false := by simp
      go_wp2
      go_roundw
      case rel => exact ⟨k + 1, nd, by omega, by go_num, by go_num, rfl⟩
      case measure => simp [intOf]; omega
    · obtain rfl : k = l.length := by omega
      go_wp2
      go_ret
      exact ⟨rfl, nd, rfl⟩
end Go.Proofs.Ytfkkhfiiokhnaat
