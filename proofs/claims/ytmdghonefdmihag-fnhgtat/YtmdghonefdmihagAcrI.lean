/-
  PROVED HERE: what the program's acrossAll answers of any list of numbers in memory; nothing in memory is turned.
-/
import Derived.Test.YtmdghonefdmihagSumW
namespace Go.Proofs.Ytmdghonefdmihag
open Go.RowKit

set_option maxRecDepth 100000 in
set_option maxHeartbeats 1000000 in
theorem implacrossAll (v : Value) (l : List Int) (gap : Int) (w : World) (h : IntsAt w v l) :
    Calls Try.prog 19 #[v, .int .i64 gap] w fun e w' => e = .returned (.int .i64 (acrV l gap)) ∧ w' = w := by
  obtain ⟨a, cap, rfl, hlen⟩ := h.form
  have H := Hid.intro h
  clear h
  by_cases h0 : l.length = 0
  · have HV := Hid.intro (acrV_nil h0 gap)
    rw [h0] at H ⊢
    clear h0
    go_enter Try.func19, Try.ntmps19
    go_wp2
    go_ret
    exact ⟨by rw [HV.out]; rfl, rfl⟩
  · have HV : Hid (acrV l gap = wrap64 (wrap64 l.sum + wrap64 (gap * ((l.length : Int) - 1)))) := by rw [Hid, acrV_cons h0, W_addl, W_addr]
    have h0' : ((l.length : Int) == 0) = false := beq_eq_false_iff_ne.2 (by omega)
    have KS := Hid.intro (implsumOfW _ l w H.out)
    go_enter Try.func19, Try.ntmps19
    go_wp2_with fail
    refine KS.out.mono ?_
    rintro e w1 ⟨rfl, rfl⟩
    go_wp2
    go_ret
    exact ⟨by rw [HV.out]; rfl, rfl⟩
end Go.Proofs.Ytmdghonefdmihag
