/-
  PROVED HERE: what the program's WidEnd answers of any list of numbers in memory; nothing in memory is turned.
-/
import Derived.Test.YtgcobajekffmoafWidAI
namespace Go.Proofs.Ytgcobajekffmoaf
open Go.RowKit

set_option maxRecDepth 100000 in
set_option maxHeartbeats 1000000 in
theorem implWidEnd (v : Value) (l : List Int) (gap col : Int) (w : World) (h : IntsAt w v l) :
    Calls Try.prog 8 #[v, .int .i64 gap, .int .i64 col] w fun e w' => e = .returned (.int .i64 (endV l gap col)) ∧ ∃ n, w' = w.drewN n := by
  obtain ⟨a, cap, rfl, hlen⟩ := h.form
  have H := Hid.intro h
  clear h
  have HI := Hid.intro (within_any col 0 ((l.length : Int) - 1))
  cases hin : inB col 0 ((l.length : Int) - 1) with
  | false =>
    have HV : Hid (endV l gap col = 0) := by rw [Hid, endV, hin]; rfl
    rw [hin] at HI
    clear hin
    go_enter Try.func8, Try.ntmps8
    go_wp2_with fail
    refine (HI.out _).mono ?_
    rintro e w1 ⟨rfl, rfl⟩
    go_wp2
    go_ret
    exact ⟨by rw [HV.out]; rfl, 0, rfl⟩
  | true =>
    have HV : Hid (endV l gap col = wrap64 (atV l gap col + l.getD col.toNat 0)) := by rw [Hid, endV, if_pos hin]
    rw [hin] at HI
    have hk : 0 ≤ col ∧ col ≤ (l.length : Int) - 1 := by simpa [inB] using hin
    clear hin
    obtain ⟨k, rfl⟩ := Int.eq_ofNat_of_zero_le hk.1
    have hkl : k < l.length := by omega
    rw [Int.toNat_natCast] at HV
    have KA := Hid.intro (fun n => implWidAt _ l gap k (w.drewN n) H.out)
    obtain ⟨b, off, cap', e', hc1, hc2, hbl, hx⟩ := H.out.get hkl
    simp only [Value.slice.injEq, true_and] at e'
    obtain ⟨rfl, rfl⟩ := e'
    unfold maxLen at hc2
    generalize l.getD k 0 = x at hx HV
    generalize atV l gap k = y at KA HV
    go_enter Try.func8, Try.ntmps8
    go_wp2_with fail
    refine (HI.out _).mono ?_
    rintro e w1 ⟨rfl, rfl⟩
    go_wp2_with fail
    go_quiet (refine (KA.out _).mono (fun _ _ ⟨h1, h2⟩ => ⟨h1, _, h2⟩))
    go_wp2
    go_ret
    exact ⟨by rw [HV.out]; rfl, _, rfl⟩
end Go.Proofs.Ytgcobajekffmoaf
