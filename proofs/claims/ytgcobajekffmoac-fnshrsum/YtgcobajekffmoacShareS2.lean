/-
  PROVED HERE: what the model's ShrShare answers at every argument, of no weights too.
-/
import Derived.Test.YtgcobajekffmoacShareS
namespace Go.Proofs.Ytgcobajekffmoac
open Go.RowKit

theorem row_lit (w : World) (B : Nat) (hB : B ≤ w.heap.size) : RowI (w.alloc (.cells #[] 3)) B (w.alloc (.cells #[] 3)).heap.size (.slice (some ⟨w.heap.size, 0, none⟩) 0 0) [] :=
  .inr ⟨w.heap.size, 0, #[], rfl, hB, by simp, newestB _ _, Nat.le_refl _, Nat.zero_le _, rfl, fun i hi => absurd hi (Nat.not_lt_zero _)⟩

set_option maxRecDepth 100000 in
set_option maxHeartbeats 4000000 in
theorem l4Share_nil (t : Int) (ht : 0 ≤ t ∧ t ≤ 100000) (a : Option Addr) (cap : Nat) (w : World) :
    Calls Try.prog 39 #[.int .i64 t, .slice a 0 cap] w fun e w' => ∃ x, e = .returned x ∧ RowI w' w.heap.size w'.heap.size x [] ∧ Below w.heap.size w w' := by
  have hmk : ∀ u : World, (Instr.makeSlice 79 (.int .i64 0) (.int .i64 0)).run Try.prog u = .ok (.slice (some ⟨u.heap.size, 0, none⟩) 0 0) (u.alloc (.cells (newBo 0) 4)) := fun u => makeBo 0 (by omega) u
  have CS := Hid.intro (fun (v : Value) (W : World) (h : IntsAt W v []) => specl1Sum_any v [] (by simp) rfl W h)
  have emp : ∀ (W : World) (aa : Option Addr), IntsAt W (.slice aa 0 0) [] := fun W aa => ⟨aa, 0, rfl, Nat.le_refl _, Nat.zero_le _, fun i hi => absurd hi (Nat.not_lt_zero _)⟩
  have EM := Hid.intro emp
  clear emp
  cases a with
  | none =>
    go_enter Try.func39, Try.ntmps39
    go_wp2_with (go_at_call 53; refine (CS.out _ _ (EM.out _ _)).mono ?_; rintro e wx ⟨rfl, ex⟩; cases ex)
    go_loopw [6] (fun s6 W => s6 = .int .i64 0 ∧ Hid (Below w.heap.size w W)) (fun _ _ => 0)
    case atStart => exact ⟨rfl, k_alloc (Below.refl _ _) _⟩
    case round =>
      obtain ⟨rfl, HB⟩ := hrel
      have hwr := HB.out.size
      go_wp2_with (go_at_call 53; refine (CS.out _ _ (EM.out _ _)).mono ?_; rintro e wx ⟨rfl, ex⟩; cases ex)
      have R0 := Hid.intro (((row_lit wr w.heap.size hwr).below (k_alloc (k_alloc (Below.refl _ _) (.cells #[] 3)) (.cells (newBo 0) 4)) (Nat.le_refl _)).base (Nat.le_refl _) (Nat.le_trans (by simp) (Nat.le_refl ((((wr.alloc (.cells #[] 3)).alloc (.cells #[] 3)).alloc (.cells (newBo 0) 4)).heap.size))))
      have B0 := Hid.intro (k_alloc (k_alloc (k_alloc HB.out (.cells #[] 3)) (.cells #[] 3)) (.cells (newBo 0) 4))
      go_loopw [8, 9, 11] (fun s8 s9 s11 W => (∃ a8, s8 = .slice a8 0 0) ∧ (∃ a9, s9 = .slice a9 0 0) ∧ s11 = .int .i64 0 ∧ Hid (RowI W w.heap.size W.heap.size s8 []) ∧ Hid (Below w.heap.size w W)) (fun _ _ _ _ => 0)
      case atStart => exact ⟨⟨_, rfl⟩, ⟨_, rfl⟩, rfl, R0, B0⟩
      case round =>
        clear R0 B0
        obtain ⟨⟨a8, rfl⟩, ⟨a9, rfl⟩, rfl, HR, HB2⟩ := hrel
        go_wp2_with (go_at_call 53; refine (CS.out _ _ (EM.out _ _)).mono ?_; rintro e wx ⟨rfl, ex⟩; cases ex)
        go_loopw [12] (fun s12 W => s12 = .int .i64 t ∧ Hid (RowI W w.heap.size W.heap.size (.slice a8 0 0) []) ∧ Hid (Below w.heap.size w W)) (fun _ _ => 0)
        case atStart => exact ⟨by simp, HR, HB2⟩
        case round =>
          clear HR HB2
          obtain ⟨rfl, HR, HB2⟩ := hrel
          by_cases h0 : 0 < t
          · go_wp2
            go_ret
            exact ⟨_, rfl, HR.out, HB2.out⟩
          · go_wp2
            go_ret
            exact ⟨_, rfl, HR.out, HB2.out⟩
  | some p =>
    go_enter Try.func39, Try.ntmps39
    go_wp2_with (go_at_call 53; refine (CS.out _ _ (EM.out _ _)).mono ?_; rintro e wx ⟨rfl, ex⟩; cases ex)
    go_loopw [6] (fun s6 W => s6 = .int .i64 0 ∧ Hid (Below w.heap.size w W)) (fun _ _ => 0)
    case atStart => exact ⟨rfl, k_alloc (Below.refl _ _) _⟩
    case round =>
      obtain ⟨rfl, HB⟩ := hrel
      have hwr := HB.out.size
      go_wp2_with (go_at_call 53; refine (CS.out _ _ (EM.out _ _)).mono ?_; rintro e wx ⟨rfl, ex⟩; cases ex)
      have R0 := Hid.intro (((row_lit wr w.heap.size hwr).below (k_alloc (k_alloc (Below.refl _ _) (.cells #[] 3)) (.cells (newBo 0) 4)) (Nat.le_refl _)).base (Nat.le_refl _) (Nat.le_trans (by simp) (Nat.le_refl ((((wr.alloc (.cells #[] 3)).alloc (.cells #[] 3)).alloc (.cells (newBo 0) 4)).heap.size))))
      have B0 := Hid.intro (k_alloc (k_alloc (k_alloc HB.out (.cells #[] 3)) (.cells #[] 3)) (.cells (newBo 0) 4))
      go_loopw [8, 9, 11] (fun s8 s9 s11 W => (∃ a8, s8 = .slice a8 0 0) ∧ (∃ a9, s9 = .slice a9 0 0) ∧ s11 = .int .i64 0 ∧ Hid (RowI W w.heap.size W.heap.size s8 []) ∧ Hid (Below w.heap.size w W)) (fun _ _ _ _ => 0)
      case atStart => exact ⟨⟨_, rfl⟩, ⟨_, rfl⟩, rfl, R0, B0⟩
      case round =>
        clear R0 B0
        obtain ⟨⟨a8, rfl⟩, ⟨a9, rfl⟩, rfl, HR, HB2⟩ := hrel
        go_wp2_with (go_at_call 53; refine (CS.out _ _ (EM.out _ _)).mono ?_; rintro e wx ⟨rfl, ex⟩; cases ex)
        go_loopw [12] (fun s12 W => s12 = .int .i64 t ∧ Hid (RowI W w.heap.size W.heap.size (.slice a8 0 0) []) ∧ Hid (Below w.heap.size w W)) (fun _ _ => 0)
        case atStart => exact ⟨by simp, HR, HB2⟩
        case round =>
          clear HR HB2
          obtain ⟨rfl, HR, HB2⟩ := hrel
          by_cases h0 : 0 < t
          · go_wp2
            go_ret
            exact ⟨_, rfl, HR.out, HB2.out⟩
          · go_wp2
            go_ret
            exact ⟨_, rfl, HR.out, HB2.out⟩

set_option maxRecDepth 100000 in
set_option maxHeartbeats 2000000 in
theorem specl4Share (t : Int) (v : Value) (l : List Int) (hok : shrOkB t l = true) (w : World) (h : IntsAt w v l) :
    Calls Try.prog 39 #[.int .i64 t, v] w fun e w' => ∃ x, e = .returned x ∧ RowI w' w.heap.size w'.heap.size x (shareL t l) ∧ Below w.heap.size w w' := by
  by_cases h0 : 0 < l.length
  · exact l4Share_any t v l hok h0 w h
  · obtain rfl : l = [] := List.eq_nil_of_length_eq_zero (by omega)
    obtain ⟨a, cap, rfl, _⟩ := h.form
    rw [shareL_none (by simp)]
    exact l4Share_nil t (shrOk_parts hok).1 a cap w

set_option maxRecDepth 100000 in
set_option maxHeartbeats 2000000 in
theorem specShrShare (t : Int) (v : Value) (l : List Int) (w : World) (h : IntsAt w v l) :
    Calls Try.prog 23 #[.int .i64 t, v] w fun e w' => ∃ x, e = .returned x ∧ RowI w' w.heap.size w'.heap.size x (shareL t l) ∧ Below w.heap.size w w' := by
  obtain ⟨a, cap, rfl, _⟩ := h.form
  have H := Hid.intro h
  clear h
  have HO := Hid.intro (fun W => specShrOk t (.slice a l.length cap) l W)
  by_cases hok : shrOkB t l = true
  · have HS := Hid.intro (fun W => specl4Share t (.slice a l.length cap) l hok W)
    go_enter Try.func23, Try.ntmps23
    go_wp2_with fail
    refine (HO.out _ H.out).mono ?_
    rintro e w1 ⟨rfl, e1⟩
    cases e1
    rw [hok]
    go_wp2_with fail
    refine (HS.out _ H.out).mono ?_
    rintro e w2 ⟨x, rfl, hr, hb⟩
    have R := Hid.intro (And.intro hr hb)
    clear hr hb
    go_wp2
    go_ret
    exact ⟨x, rfl, R.out.1, R.out.2⟩
  · have hok' := eq_false_of_ne_true hok
    have HE := Hid.intro (shareL_none (t := t) (l := l) (by simp [hok']))
    go_enter Try.func23, Try.ntmps23
    go_wp2_with fail
    refine (HO.out _ H.out).mono ?_
    rintro e w1 ⟨rfl, e1⟩
    cases e1
    rw [hok']
    go_wp2
    go_ret
    exact ⟨_, rfl, by rw [HE.out]; exact row_lit w _ (Nat.le_refl _), k_alloc (Below.refl _ _) _⟩
end Go.Proofs.Ytgcobajekffmoac
