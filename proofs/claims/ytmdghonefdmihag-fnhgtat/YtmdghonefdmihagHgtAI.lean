/-
  PROVED HERE: what the program's HgtAt answers of any list of numbers in memory; nothing in memory is turned.
-/
import Derived.Test.YtmdghonefdmihagWidAI
namespace Go.Proofs.Ytmdghonefdmihag
open Go.RowKit

set_option maxRecDepth 100000 in
theorem implHgtAt (v : Value) (l : List Int) (row : Int) (w : World) (h : IntsAt w v l) :
    Calls Try.prog 6 #[v, .int .i64 row] w fun e w' => e = .returned (.int .i64 (atV l 0 row)) ∧ w' = w := by
  obtain ⟨a, cap, rfl, hlen⟩ := h.form
  have H := Hid.intro h
  clear h
  go_enter Try.func6, Try.ntmps6
  go_wp2_with fail
  refine (implWidAt _ l 0 row _ H.out).mono ?_
  rintro e w1 ⟨rfl, rfl⟩
  go_wp2
  go_ret
  exact ⟨rfl, rfl⟩
end Go.Proofs.Ytmdghonefdmihag
