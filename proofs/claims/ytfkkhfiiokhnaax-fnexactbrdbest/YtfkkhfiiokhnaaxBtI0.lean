/-
  PROVED HERE: what the program's method beats answers at any two borders.
-/
import Derived.Test.YtfkkhfiiokhnaaxBtB
import Derived.Test.YtfkkhfiiokhnaaxKit
namespace Go.Proofs.Ytfkkhfiiokhnaax
open Go.RowKit

set_option maxRecDepth 100000 in
set_option maxHeartbeats 400000 in
theorem implbeats (a b c d : Int) (w : World) :
    Calls Try.prog 32 #[.agg #[.int .i64 a, .int .i64 b], .agg #[.int .i64 c, .int .i64 d]] w fun e w' => e = .returned (.bool (beatsB a b c d)) ∧ w' = (w.alloc (.cells #[.int .i64 a, .int .i64 b] 25)).alloc (.cells #[.int .i64 c, .int .i64 d] 25) := by
  by_cases ha : a = 4
  · subst ha
    by_cases hc : c = 4
    · subst hc
      have HB := Hid.intro (beats_hid2 (a := 4) b d)
      go_enter Try.func32, Try.ntmps32
      go_wp2
      go_ret
      exact ⟨retB HB.out.symm, rfl⟩
    · have e1 : (c == 4) = false := beq_eq_false_iff_ne.2 hc
      have e2 : (c != 4) = true := bne_iff_ne.2 hc
      have HB := Hid.intro (beats_hid1 b d hc)
      clear hc
      go_enter Try.func32, Try.ntmps32
      go_wp2
      go_ret
      exact ⟨retB HB.out.symm, rfl⟩
  have a1 : (a == 4) = false := beq_eq_false_iff_ne.2 ha
  by_cases hc : c = 4
  · subst hc
    have HB := Hid.intro (beats_hid2 (a := a) b d)
    clear ha
    go_enter Try.func32, Try.ntmps32
    go_wp2
    go_ret
    exact ⟨retB HB.out.symm, rfl⟩
  have e1 : (c == 4) = false := beq_eq_false_iff_ne.2 hc
  by_cases h : b = d
  · subst h
    have HB := Hid.intro (beats_style (b := b) ha hc)
    clear ha hc
    go_enter Try.func32, Try.ntmps32
    go_wp2
    go_ret
    exact ⟨retB HB.out.symm, rfl⟩
  · have h1 : (b != d) = true := bne_iff_ne.2 h
    have HB := Hid.intro (beats_wide ha hc h)
    clear ha hc h
    go_enter Try.func32, Try.ntmps32
    go_wp2
    go_ret
    exact ⟨retB HB.out.symm, rfl⟩

end Go.Proofs.Ytfkkhfiiokhnaax
