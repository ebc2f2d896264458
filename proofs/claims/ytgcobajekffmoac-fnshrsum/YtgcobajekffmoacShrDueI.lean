/-
  PROVED HERE: what the program's ShrDue answers at every argument; nothing that was in memory is turned.
-/
import Derived.Test.YtgcobajekffmoacIntFns
namespace Go.Proofs.Ytgcobajekffmoac
open Go.RowKit

def dueV (t : Int) (l : List Int) (k : Int) : Int := if shrOkB t l && inB k 0 (l.length - 1) && l.sum != 0 then t * l.getD k.toNat 0 / l.sum else 0
theorem due_no {t : Int} {l : List Int} {k : Int} (h : shrOkB t l = false ∨ inB k 0 (l.length - 1) = false ∨ l.sum = 0) : dueV t l k = 0 := by
  rw [dueV, if_neg]
  rcases h with h | h | h <;> simp [h]
theorem due_yes {t : Int} {l : List Int} {k : Int} (h1 : shrOkB t l = true) (h2 : inB k 0 (l.length - 1) = true) (h3 : l.sum ≠ 0) : dueV t l k = t * l.getD k.toNat 0 / l.sum := by
  rw [dueV, if_pos]
  simp [h1, h2, h3]
theorem mul_small {t x : Int} (h1 : 0 ≤ t ∧ t ≤ 100000) (h2 : 0 ≤ x ∧ x ≤ 100000) : 0 ≤ t * x ∧ t * x ≤ 10000000000 :=
  ⟨Int.mul_nonneg h1.1 h2.1, Int.le_trans (Int.mul_le_mul h1.2 h2.2 h2.1 (by omega)) (by omega)⟩

set_option maxRecDepth 100000 in
set_option maxHeartbeats 1000000 in
theorem implShrDue (t : Int) (v : Value) (l : List Int) (k : Int) (w : World) (h : IntsAt w v l) :
    Calls Try.prog 27 #[.int .i64 t, v, .int .i64 k] w fun e w' => e = .returned (.int .i64 (dueV t l k)) ∧ w' = w := by
  obtain ⟨a, cap, rfl, hlen⟩ := h.form
  have H := Hid.intro h
  clear h
  have HO := Hid.intro (fun W => implShrOk t (.slice a l.length cap) l W)
  have HI := Hid.intro (within_any k 0 ((l.length : Int) - 1))
  by_cases h1 : shrOkB t l = true
  · obtain ⟨ht, hl, hw⟩ := shrOk_parts h1
    by_cases h2 : inB k 0 (l.length - 1) = true
    · have HS := Hid.intro (fun W => implsumOf_any (.slice a l.length cap) l (by omega) hw W)
      have hsb := sum_bound hw
      have hk : 0 ≤ k ∧ k ≤ (l.length : Int) - 1 := by simpa [inB] using h2
      obtain ⟨n, rfl⟩ := Int.eq_ofNat_of_zero_le hk.1
      have hn : n < l.length := by omega
      have hx0 := wt_get hw hn
      have hm := mul_small ht hx0
      by_cases h3 : l.sum = 0
      · have HF := Hid.intro (due_no (t := t) (l := l) (k := n) (.inr (.inr h3)))
        go_enter Try.func27, Try.ntmps27
        go_wp2_with fail
        refine (HO.out _ H.out).mono ?_
        rintro e w1 ⟨rfl, rfl⟩
        rw [h1]
        go_wp2_with fail
        refine (HI.out _).mono ?_
        rintro e w1 ⟨rfl, rfl⟩
        rw [h2]
        go_wp2_with fail
        refine (HS.out _ H.out).mono ?_
        rintro e w1 ⟨rfl, rfl⟩
        rw [h3]
        go_wp2
        go_ret
        exact ⟨retI64 HF.out.symm, rfl⟩
      · have HF := Hid.intro (due_yes h1 h2 h3)
        have h3' : (l.sum == 0) = false := by simpa using h3
        obtain ⟨b, off, cap', e', hc1, hc2, hbl, hx⟩ := H.out.get hn
        simp only [Value.slice.injEq, true_and] at e'
        obtain ⟨rfl, rfl⟩ := e'
        unfold maxLen at hc2
        rw [Int.toNat_natCast] at HF
        generalize l.getD n 0 = x at hx hx0 hm HF
        generalize l.sum = s at HS hsb h3 h3' HF
        go_enter Try.func27, Try.ntmps27
        go_wp2_with fail
        refine (HO.out _ H.out).mono ?_
        rintro e w1 ⟨rfl, rfl⟩
        rw [h1]
        go_wp2_with fail
        refine (HI.out _).mono ?_
        rintro e w1 ⟨rfl, rfl⟩
        rw [h2]
        go_wp2_with fail
        refine (HS.out _ H.out).mono ?_
        rintro e w1 ⟨rfl, rfl⟩
        go_wp2
        go_ret
        exact ⟨retI64 (by rw [HF.out]; done), rfl⟩
    · have h2' := eq_false_of_ne_true h2
      have HF := Hid.intro (due_no (t := t) (l := l) (k := k) (.inr (.inl h2')))
      go_enter Try.func27, Try.ntmps27
      go_wp2_with fail
      refine (HO.out _ H.out).mono ?_
      rintro e w1 ⟨rfl, rfl⟩
      rw [h1]
      go_wp2_with fail
      refine (HI.out _).mono ?_
      rintro e w1 ⟨rfl, rfl⟩
      rw [h2']
      go_wp2
      go_ret
      exact ⟨retI64 HF.out.symm, rfl⟩
  · have h1' := eq_false_of_ne_true h1
    have HF := Hid.intro (due_no (t := t) (l := l) (k := k) (.inl h1'))
    go_enter Try.func27, Try.ntmps27
    go_wp2_with fail
    refine (HO.out _ H.out).mono ?_
    rintro e w1 ⟨rfl, rfl⟩
    rw [h1']
    go_wp2
    go_ret
    exact ⟨retI64 HF.out.symm, rfl⟩
end Go.Proofs.Ytgcobajekffmoac
