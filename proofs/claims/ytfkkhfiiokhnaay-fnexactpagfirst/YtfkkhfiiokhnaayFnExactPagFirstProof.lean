/- PROVED: at every pages and every number the law FnExactPagFirst returns true (the program's PagFirst answers as the model's, and leaves its argument as it was) and its arguments read as before; no condition. -/
import Derived.Test.YtfkkhfiiokhnaayPagRI
import Derived.Test.YtfkkhfiiokhnaayPagRS
import Derived.Test.YtfkkhfiiokhnaayPagSS
import Derived.Test.YtfkkhfiiokhnaayOpenPgs
import Derived.WalkKit
import Derived.ProofKit
import Derived.OpenShut
import Derived.ShutString
import Derived.ChangeOld
import Derived.Below
import Derived.Lib.SmallJoins
namespace Go.Proofs.Ytfkkhfiiokhnaay.fnExactPagFirst
open Go.ChangeShapes Go.WideShapes Go.ChangeAt Go.RowKit Go.Joins Go.Deep
open Go.ChangeMaps (open_string shut_string)

set_option maxRecDepth 100000 in
set_option maxHeartbeats 2000000 in
theorem walk (v : Value) (pss : List (List PgS)) (row : Int) (w : World) (h : PssAt w 0 v pss) :
    Calls Try.prog 6 #[v, .int .i64 row] w fun e w' => e = .returned (.bool true) ∧ Below w.heap.size w w' := by
  obtain ⟨a, cap, rfl, hlen⟩ := At.form h
  have H := Hid.intro h
  clear h
  by_cases hn : totP pss ≤ 1048576
  · have hg : ¬ (1048576 : Int) - (totP pss : Nat) < 0 := by omega
    have HL := Hid.intro (leftOf_pos (n := 1048576) (m := totP pss) (by omega))
    go_enter Try.func6, Try.ntmps6
    go_wp2_with fail
    refine (szPagSliceSS_any _ pss _ H.out).mono ?_
    rw [HL.out]
    rintro e w1 ⟨rfl, hb1⟩
    have K1 := Hid.intro hb1
    clear hb1
    go_wp2_with fail
    refine (toPagSliceSS_any _ pss hn _ (H.out.kept K1.out)).mono ?_
    rintro e w2 ⟨a2, c2, rfl, hC2, hb2⟩
    have K2 := Hid.intro (k_trans K1.out hb2)
    have C2 := Hid.intro hC2
    clear hb2 hC2
    go_wp2_with fail
    refine (specPagFirst _ pss row _ C2.out).mono ?_
    rintro e w3 ⟨rfl, hb3⟩
    have K3 := Hid.intro (k_trans K2.out hb3)
    clear hb3 C2
    go_wp2_with fail
    refine (toPagSliceSS_any _ pss hn _ (H.out.kept K3.out)).mono ?_
    rintro e w4 ⟨a4, c4, rfl, hC4, hb4⟩
    have K4 := Hid.intro (k_trans K3.out hb4)
    have C4 := Hid.intro hC4
    clear hb4 hC4
    go_wp2_with fail
    refine (implPagFirst _ pss row _ C4.out).mono ?_
    rintro e w5 ⟨rfl, hb5⟩
    have K5 := Hid.intro (k_trans K4.out hb5)
    have C5 := Hid.intro (C4.out.kept hb5)
    clear hb5 C4
    generalize firstP pss row = y
    have hyy : (y != y) = false := by simp
    go_wp2_with fail
    refine (toPagSliceSS_any _ pss hn _ (H.out.kept K5.out)).mono ?_
    rintro e w6 ⟨a6, c6, rfl, hC6, hb6⟩
    have K6 := Hid.intro (k_trans K5.out hb6)
    have C6 := Hid.intro hC6
    have D6 := Hid.intro (C5.out.kept hb6)
    clear hb6 hC6
    go_wp2_with fail
    refine (eqPagSliceSS_any _ _ pss _ D6.out C6.out).mono ?_
    rintro e w7 ⟨rfl, hb7⟩
    have K7 := Hid.intro (k_trans K6.out hb7)
    clear hb7
    go_wp2
    go_ret
    exact ⟨rfl, K7.out⟩
  · have HL := Hid.intro (leftOf_neg (n := 1048576) (m := totP pss) (by omega))
    go_enter Try.func6, Try.ntmps6
    go_wp2_with fail
    refine (szPagSliceSS_any _ pss _ H.out).mono ?_
    rw [HL.out]
    rintro e w1 ⟨rfl, hb1⟩
    have K1 := Hid.intro hb1
    clear hb1
    go_wp2
    go_ret
    exact ⟨rfl, K1.out⟩

set_option linter.unusedVariables false in
set_option maxRecDepth 100000 in
theorem lifted (os : Os) (started : os.Started) (H : Type) (enc : TypeId × Value → H) :
    ReturnsInHanded {} Try.checked os 6 .any (Rows.fnExactPagFirstSpec.pre6 enc Try.prog Try.f6 Rows.fnExactPagFirstRow.domain false) (Rows.fnExactPagFirstSpec.post enc Try.prog Try.f6 false true false false) := by
  refine returnsInHanded_of_change (C := Try.checked) own started (by kernel_rfl) Try.func6
    (ChangeSpec.witness6 (enc := enc) (C := Try.checked) false ⟨#[], #[.slice none 0 0, .int .i64 0], []⟩ 8 (by kernel_rfl) (by kernel_rfl) (by kernel_rfl) (by kernel_rfl)) ?_
  intro W base args ds gs before hval0 hW hcnd _
  have hval : ∀ (j : Nat) t v, Try.f6.params[j]? = some t → args[j]? = some v → Value.okWide Try.prog W .any base t v := hval0
  have hW' := hW
  obtain ⟨p, q, hA0, hV, rfl, hfz, hnd⟩ := hW
  have hA : DataW.TrodAll enc Try.prog W 0 (fun _ => true) true Try.f6.params.toList args.toList ds p := hA0
  rw [Try.params6] at hA hval
  obtain ⟨v0, vs0, d0, ds0, p0, q0, hargs, rfl, rfl, h0, r0⟩ := trodAll_cons hA
  obtain ⟨v1, vs1, d1, ds1, p1, q1, rfl, rfl, rfl, h1, r1⟩ := trodAll_cons r0
  obtain ⟨rfl, rfl, rfl⟩ := trodAll_nil r1
  obtain rfl : args = #[v0, v1] := by cases args; simp_all
  obtain ⟨rfl, rfl⟩ := trodVars_none hV
  have k0 := h0
  have lt0 : ∀ x ∈ p0, x.block < W.heap.size := by obtain ⟨m, hm⟩ := k0; exact DataW.trod_lt m _ _ _ hm
  have k1 := h1
  have lt1 : ∀ x ∈ p1, x.block < W.heap.size := by obtain ⟨m, hm⟩ := k1; exact DataW.trod_lt m _ _ _ hm
  obtain ⟨a0, len0, cap0, rfl⟩ := okWide_slice Try.underlying45 (hval 0 45 v0 rfl rfl)
  obtain ⟨fuel0, hf0⟩ := h0
  obtain ⟨v, l, hv, hl⟩ := openPssL hf0
  obtain rfl : v = .slice a0 len0 cap0 := by simpa [Value.cells] using hv.symm
  obtain ⟨q1, rfl, rfl, rfl, wq1⟩ := open_int Try.underlying3 (hval 1 3 v1 rfl rfl) h1
  clear hA0 hval0
  refine (walk _ l q1 W hl).mono fun e W' ⟨he, bel⟩ => ?_
  subst he
  exact ⟨_, rfl, _, _, _, [], _, [], hW', trodAll_mk1 (shut_bool Try.underlying4 _), (trodAll_cons_mk (Below.trod laidOut (by kernel_rfl) (of_decide_eq_true (by kernel_rfl)) k0 bel lt0) (trodAll_cons_mk (Below.trod laidOut (by kernel_rfl) (of_decide_eq_true (by kernel_rfl)) k1 bel lt1) trodAll_mk0)), rfl, bel.frame _, fun h => by cases h⟩

theorem proved : Rows.FnExactPagFirstSaid :=
  OpenClaim.holds_of_wide 6 Try.f6 rfl rfl rfl rfl rfl rfl rfl ⟨rfl, rfl, rfl, rfl, rfl⟩ rfl rfl rfl rfl rfl (by kernel_rfl) Try.func6 (by kernel_rfl)
    (of_decide_eq_true (by kernel_rfl)) (by unfold Func.isWrapper; first | (rw [if_pos (by decide +kernel)]; kernel_rfl) | (rw [if_neg (by decide +kernel)]; exact ⟨rfl, rfl⟩))
    (fun os started H enc _ => lifted os started H enc)
#print axioms proved
end Go.Proofs.Ytfkkhfiiokhnaay.fnExactPagFirst
