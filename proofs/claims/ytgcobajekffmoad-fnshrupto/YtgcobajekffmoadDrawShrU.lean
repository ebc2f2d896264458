/-
  PROVED HERE: DrawShrUpTo draws a number and a list of numbers; nothing that was in memory is turned.
-/
import Derived.Test.YtgcobajekffmoadDrawShr
namespace Go.Proofs.Ytgcobajekffmoad
open Go.RowKit

set_option maxRecDepth 100000 in
theorem drawShrUpTo_any (a : Option Addr) (len cap : Nat) (w : World) (h : IsCode w a len cap) :
    Calls Try.prog 16 #[.slice a len cap] w fun e w' => ∃ (t : Int) (aa : Option Addr) (cc : Nat) (l : List Int), e = .returned (.tuple #[.int .i64 t, .slice aa l.length cc]) ∧ -1 ≤ t ∧ t ≤ 100000 ∧ l.length ≤ 8 ∧ (∀ x ∈ l, -1 ≤ x ∧ x ≤ 100001) ∧ RowI w' w.heap.size w'.heap.size (.slice aa l.length cc) l ∧ Below w.heap.size w w' := by
  have HC := Hid.intro h
  clear h
  go_enter Try.func16, Try.ntmps16
  go_wp2_with fail
  refine (drawShrShare_any _ _ _ _ HC.out).mono ?_
  rintro e w1 ⟨t, aa, cc, l, rfl, h1, h2, h3, h4, h5, h6⟩
  have HF := Hid.intro (And.intro h4 (And.intro h5 h6))
  clear h4 h5 h6
  go_wp2
  go_ret2
  exact ⟨t, aa, cc, l, rfl, h1, h2, h3, HF.out.1, HF.out.2.1, HF.out.2.2⟩
end Go.Proofs.Ytgcobajekffmoad
