/-
  PROVED HERE: where a rect, of package laws, can be read it is four numbers; the laws' own toQryRect.
-/
import Derived.Test.YtcbibdhlkdcmiaoOpenAt
import Derived.Test.YtcbibdhlkdcmiaoGrdD
import Derived.Test.YtcbibdhlkdcmiaoMem
namespace Go.Proofs.Ytcbibdhlkdcmiao
open Go.RowKit Go.ChangeShapes Go.Deep

theorem cIntQ : Try.prog.cellsOf 3 = 1 := by kernel_rfl
theorem cQR : Try.prog.cellsOf 23 = 4 := by kernel_rfl
section
variable {H : Type} {enc : TypeId × Value → H} {w : World} {spare : Nat → Bool} {held : Bool}
set_option maxRecDepth 100000 in
theorem openQrL {fuel : Nat} {cs : List Value} {x : DataW H × List MemPlace} (h : DataW.trod enc Try.prog w 0 spare held fuel 23 cs = some x) : ∃ a b c d : Int, cs = [.int .i64 a, .int .i64 b, .int .i64 c, .int .i64 d] ∧ I64 a ∧ I64 b ∧ I64 c ∧ I64 d := by
  obtain ⟨xs, m, _, _, hl, hlen, hf⟩ := DataW.trod_struct Try.underlying23 h
  rw [cQR] at hl
  simp at hlen
  match cs, hl with
  | [c0, c1, c2, c3], _ =>
    obtain ⟨y0, k0⟩ := some_of (i := 0) hlen (by omega)
    obtain ⟨y1, k1⟩ := some_of (i := 1) hlen (by omega)
    obtain ⟨y2, k2⟩ := some_of (i := 2) hlen (by omega)
    obtain ⟨y3, k3⟩ := some_of (i := 3) hlen (by omega)
    have f0 := (hf 0 _ rfl).trans k0
    have f1 := (hf 1 _ rfl).trans k1
    have f2 := (hf 2 _ rfl).trans k2
    have f3 := (hf 3 _ rfl).trans k3
    simp [cIntQ] at f0 f1 f2 f3
    obtain ⟨n0, e0, _, b0⟩ := DataW.trod_int Try.underlying3 f0
    obtain ⟨n1, e1, _, b1⟩ := DataW.trod_int Try.underlying3 f1
    obtain ⟨n2, e2, _, b2⟩ := DataW.trod_int Try.underlying3 f2
    obtain ⟨n3, e3, _, b3⟩ := DataW.trod_int Try.underlying3 f3
    simp at e0 e1 e2 e3
    subst e0 e1 e2 e3
    exact ⟨n0, n1, n2, n3, rfl, bounds_i64 b0, bounds_i64 b1, bounds_i64 b2, bounds_i64 b3⟩
end
set_option maxRecDepth 100000 in
theorem toQryRect_any (a b c d : Int) (w : World) :
    Calls Try.prog 7 #[.agg #[.int .i64 a, .int .i64 b, .int .i64 c, .int .i64 d]] w fun e w' => e = .returned (.agg #[.int .i64 a, .int .i64 b, .int .i64 c, .int .i64 d]) ∧ Below w.heap.size w w' := by
  go_enter Try.func7, Try.ntmps7
  go_wp2
  refine bodyPost_ret (v := .agg #[.int .i64 a, .int .i64 b, .int .i64 c, .int .i64 d]) (by simp [results, Try.results7, go_sem]) rfl ⟨rfl, ?_⟩
  exact k_alloc (k_alloc (k_alloc (Below.refl _ _) _) _) _
end Go.Proofs.Ytcbibdhlkdcmiao
