/- PROVED: at every rect the law FnExactQryArea returns true (the program's QryArea answers as the model's) and its arguments read as before; no condition. -/
import Derived.Test.YtcbibdhlkdcmiaoKit
import Derived.Test.YtcbibdhlkdcmiaoQrAI
import Derived.Test.YtcbibdhlkdcmiaoQrAS
import Derived.Test.YtcbibdhlkdcmiaoOpenQr
import Derived.WalkKit
import Derived.ProofKit
import Derived.OpenShut
import Derived.ShutString
import Derived.ChangeOld
import Derived.Below
import Derived.Lib.SmallJoins
namespace Go.Proofs.Ytcbibdhlkdcmiao.fnExactQryArea
open Go.ChangeShapes Go.WideShapes Go.ChangeAt Go.RowKit Go.Joins Go.Deep
open Go.ChangeMaps (open_string shut_string)

theorem ret4 {w : World} {g : Nat} {x0 x1 x2 x3 : Value} {t : TypeId} (h : w.heap[g]? = some (.cells #[x0, x1, x2, x3] t)) :
    w.cell? ⟨g, 0, none⟩ = some x0 ∧ w.cell? ⟨g, 1, none⟩ = some x1 ∧ w.cell? ⟨g, 2, none⟩ = some x2 ∧ w.cell? ⟨g, 3, none⟩ = some x3 := ⟨cellB h, cellB h, cellB h, cellB h⟩
set_option maxRecDepth 100000 in
theorem walk (a b c d : Int) (w : World) :
    Calls Try.prog 3 #[.agg #[.int .i64 a, .int .i64 b, .int .i64 c, .int .i64 d]] w fun e w' => e = .returned (.bool true) ∧ Below w.heap.size w w' := by
  have KS := Hid.intro (specQryArea a b c d)
  have KI := Hid.intro (implQryArea a b c d)
  generalize wrap64 (c * d) = p at KS KI
  have hpp : (p != p) = false := by simp
  have A0 := Hid.intro (newestB w (.cells #[.int .i64 a, .int .i64 b, .int .i64 c, .int .i64 d] 23))
  have K0 := Hid.intro (k_alloc (Below.refl w.heap.size w) (.cells #[.int .i64 a, .int .i64 b, .int .i64 c, .int .i64 d] 23))
  have s0 : w.heap.size < (w.alloc (.cells #[.int .i64 a, .int .i64 b, .int .i64 c, .int .i64 d] 23)).heap.size := by simp
  go_enter Try.func3, Try.ntmps3
  go_wp2_with fail
  refine (toQryRect_any _ _ _ _ _).mono ?_
  rintro e w1 ⟨rfl, hb1⟩
  have A1 := Hid.intro ((hb1.block w.heap.size s0).trans A0.out)
  have K1 := Hid.intro (k_trans K0.out hb1)
  have s1 : w.heap.size < w1.heap.size := by have := hb1.size; omega
  clear hb1 A0 K0 s0
  go_wp2_with fail
  refine (KS.out _).mono ?_
  rintro e w2 ⟨rfl, hb2⟩
  have A2 := Hid.intro ((hb2.block w.heap.size s1).trans A1.out)
  have K2 := Hid.intro (k_trans K1.out hb2)
  clear hb2 A1 K1 s1
  obtain ⟨m0, m1, m2, m3⟩ := ret4 A2.out
  go_wp2_with fail
  refine (toQryRect_any _ _ _ _ _).mono ?_
  rintro e w3 ⟨rfl, hb3⟩
  have K3 := Hid.intro (k_trans K2.out hb3)
  clear hb3 K2 m0 m1 m2 m3
  go_wp2_with fail
  refine (KI.out _).mono ?_
  rintro e w4 ⟨rfl, hb4⟩
  have K4 := Hid.intro (k_trans K3.out hb4)
  clear hb4 K3
  go_wp2
  go_ret
  exact ⟨rfl, K4.out⟩

set_option linter.unusedVariables false in
set_option maxRecDepth 100000 in
theorem lifted (os : Os) (started : os.Started) (H : Type) (enc : TypeId × Value → H) :
    ReturnsInHanded {} Try.checked os 3 .any (Rows.fnExactQryAreaSpec.pre6 enc Try.prog Try.f3 Rows.fnExactQryAreaRow.domain false) (Rows.fnExactQryAreaSpec.post enc Try.prog Try.f3 false true false false) := by
  refine returnsInHanded_of_change (C := Try.checked) own started (by kernel_rfl) Try.func3
    (ChangeSpec.witness6 (enc := enc) (C := Try.checked) false ⟨#[], #[.agg #[.int .i64 0, .int .i64 0, .int .i64 0, .int .i64 0]], []⟩ 8 (by kernel_rfl) (by kernel_rfl) (by kernel_rfl) (by kernel_rfl)) ?_
  intro W base args ds gs before hval0 hW hcnd _
  have hval : ∀ (j : Nat) t v, Try.f3.params[j]? = some t → args[j]? = some v → Value.okWide Try.prog W .any base t v := hval0
  have hW' := hW
  obtain ⟨p, q, hA0, hV, rfl, hfz, hnd⟩ := hW
  have hA : DataW.TrodAll enc Try.prog W 0 (fun _ => true) true Try.f3.params.toList args.toList ds p := hA0
  rw [Try.params3] at hA hval
  obtain ⟨v0, vs0, d0, ds0, p0, q0, hargs, rfl, rfl, h0, r0⟩ := trodAll_cons hA
  obtain ⟨rfl, rfl, rfl⟩ := trodAll_nil r0
  obtain rfl : args = #[v0] := by cases args; simp_all
  obtain ⟨rfl, rfl⟩ := trodVars_none hV
  have k0 := h0
  have lt0 : ∀ x ∈ p0, x.block < W.heap.size := by obtain ⟨m, hm⟩ := k0; exact DataW.trod_lt m _ _ _ hm
  obtain ⟨cs0, rfl, hsz0⟩ := okWide_struct Try.underlying23 (hval 0 23 v0 rfl rfl)
  obtain ⟨fuel0, hf0⟩ := h0
  obtain ⟨a, b, c, d, hcs, ha, hb, hc, hd⟩ := openQrL (by simpa [Value.cells] using hf0)
  obtain rfl : cs0 = #[.int .i64 a, .int .i64 b, .int .i64 c, .int .i64 d] := by cases cs0; simp_all
  clear hA0 hval0
  refine (walk a b c d W).mono fun e W' ⟨he, bel⟩ => ?_
  subst he
  exact ⟨_, rfl, _, _, _, [], _, [], hW', trodAll_mk1 (shut_bool Try.underlying4 _), (trodAll_cons_mk (Below.trod laidOut (by kernel_rfl) (of_decide_eq_true (by kernel_rfl)) k0 bel lt0) trodAll_mk0), rfl, bel.frame _, fun h => by cases h⟩

theorem proved : Rows.FnExactQryAreaSaid :=
  OpenClaim.holds_of_wide 3 Try.f3 rfl rfl rfl rfl rfl rfl rfl ⟨rfl, rfl, rfl, rfl, rfl⟩ rfl rfl rfl rfl rfl (by kernel_rfl) Try.func3 (by kernel_rfl)
    (of_decide_eq_true (by kernel_rfl)) (by unfold Func.isWrapper; first | (rw [if_pos (by decide +kernel)]; kernel_rfl) | (rw [if_neg (by decide +kernel)]; exact ⟨rfl, rfl⟩))
    (fun os started H enc _ => lifted os started H enc)
#print axioms proved
end Go.Proofs.Ytcbibdhlkdcmiao.fnExactQryArea
