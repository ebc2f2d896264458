/- PROVED: at every string and every width the law FnExactTxtLines returns true (the program's TxtLines answers as the model's, and its answer owns its memory) and its arguments read as before; no condition. -/
import Derived.Test.YtgnaaeonklongarLnI2
import Derived.Test.YtgnaaeonklongarLnS
import Derived.Test.YtgnaaeonklongarStrMark
import Derived.WalkKit
import Derived.ProofKit
import Derived.OpenShut
import Derived.ShutString
import Derived.ChangeOld
import Derived.Below
import Derived.Lib.SmallJoins
namespace Go.Proofs.Ytgnaaeonklongar.fnExactTxtLines
open Go.ChangeShapes Go.WideShapes Go.ChangeAt Go.RowKit Go.Joins Go.Deep
open Go.ChangeMaps (open_string shut_string)

set_option maxRecDepth 100000 in
set_option maxHeartbeats 2000000 in
theorem walk (s : ByteArray) (hs : s.size ≤ maxLen) (q : Int) (hq : -9223372036854775808 ≤ q ∧ q ≤ 9223372036854775807) (w : World) :
    Calls Try.prog 3 #[.string s, .int .i64 q] w fun e w' => e = .returned (.bool true) ∧ Below w.heap.size w w' := by
  have hs' := hs
  unfold maxLen at hs'
  by_cases hbig : (1048576 : Int) < (s.size : Int)
  · go_enter Try.func3, Try.ntmps3
    go_wp2
    go_ret
    exact ⟨rfl, Below.refl _ _⟩
  · obtain ⟨l, hl, H1, H2⟩ : ∃ l : List ByteArray, l.length ≤ 90 ∧
        Hid (∀ w, Calls Try.prog 9 #[.string s, .int .i64 q] w fun e w' => ∃ v, e = .returned v ∧ RowS w' w.heap.size v l ∧ Below w.heap.size w w') ∧
        Hid (∀ w, Calls Try.prog 10 #[.string s, .int .i64 q] w fun e w' => ∃ v, e = .returned v ∧ RowS w' w.heap.size v l ∧ Below w.heap.size w w') :=
      ⟨lnOut (lnSt q (wordsW s)), by have := wordsW_len s; have := (out_bound q (wordsW s)).1; omega,
       fun w => specTxtLines s hs q hq w,
       fun w => (implTxtLines s hs q w).mono (fun _ _ ⟨v, h1, h2, h3⟩ => ⟨v, h1, RowS.of_owns h2, h3⟩)⟩
    have hq0 : ¬ (1 + (l.length : Int)) < 0 := by omega
    have hne : ((1 + (l.length : Int)) != (1 + (l.length : Int))) = false := by simp
    go_enter Try.func3, Try.ntmps3
    go_wp2_with fail
    refine (H1.out _).mono ?_
    rintro e w1 ⟨v1, rfl, hr1, hb1⟩
    obtain ⟨a1, c1, rfl⟩ := hr1.form
    have R1 := Hid.intro hr1
    have K1 := Hid.intro hb1
    clear hr1 hb1
    go_wp2_with fail
    refine (H2.out _).mono ?_
    rintro e w2 ⟨v2, rfl, hr2, hb2⟩
    obtain ⟨a2, c2, rfl⟩ := hr2.form
    have R2 := Hid.intro hr2
    have K2 := Hid.intro hb2
    clear hr2 hb2
    go_wp2_with fail
    refine (eqRowS_any _ _ l hl w1.heap.size w.heap.size _ R2.out (R1.out.below K2.out (Nat.le_refl _))).mono ?_
    rintro e w3 ⟨rfl, n3, rfl⟩
    have R3 : Hid (RowS (w2.drewN n3) w1.heap.size (.slice a2 l.length c2) l) := R2.out
    have K3 := Hid.intro (k_drewN K2.out n3)
    have hs3 : w1.heap.size ≤ (w2.drewN n3).heap.size := K3.out.size
    clear R2 K2
    generalize w2.drewN n3 = w3 at R3 K3 hs3
    go_wp2_with fail
    refine (markStringS_any _ l hl w1.heap.size _ hs3 R3.out).mono ?_
    rintro e w4 ⟨rfl, hr4, hb4⟩
    have R4 := Hid.intro hr4
    have K4 := Hid.intro (K3.out.trans hb4)
    clear hr4 hb4
    go_wp2_with fail
    refine (heldStringS_any _ l hl w1.heap.size _ R4.out).mono ?_
    rintro e w5 ⟨rfl, hb5⟩
    have R5 := Hid.intro (R4.out.below hb5 (Nat.le_refl _))
    have K5 := Hid.intro (k_trans K4.out hb5)
    clear hb5
    go_wp2_with fail
    refine (H2.out _).mono ?_
    rintro e w6 ⟨v6, rfl, hr6, hb6⟩
    obtain ⟨a6, c6, rfl⟩ := hr6.form
    have R6 := Hid.intro hr6
    have K6 := Hid.intro (k_trans K5.out hb6)
    have X6 := Hid.intro (R5.out.below hb6 (Nat.le_refl _))
    clear hr6 hb6
    go_wp2_with fail
    refine (eqRowS_any _ _ l hl w5.heap.size w.heap.size _ R6.out (R1.out.below K6.out (Nat.le_refl _))).mono ?_
    rintro e w7 ⟨rfl, n7, rfl⟩
    have R7 : Hid (RowS (w6.drewN n7) w1.heap.size (.slice a2 l.length c2) (marked l l.length)) := X6.out
    have K7 := Hid.intro (k_drewN K6.out n7)
    generalize w6.drewN n7 = w7 at R7 K7
    go_wp2_with fail
    refine (heldStringS_any _ l hl w1.heap.size _ R7.out).mono ?_
    rintro e w8 ⟨rfl, hb8⟩
    have K8 := Hid.intro (k_trans K1.out (k_trans K7.out hb8))
    clear hb8
    go_wp2
    go_ret
    exact ⟨rfl, K8.out⟩

set_option linter.unusedVariables false in
set_option maxRecDepth 100000 in
theorem lifted (os : Os) (started : os.Started) (H : Type) (enc : TypeId × Value → H) :
    ReturnsInHanded {} Try.checked os 3 .any (Rows.fnExactTxtLinesSpec.pre6 enc Try.prog Try.f3 Rows.fnExactTxtLinesRow.domain false) (Rows.fnExactTxtLinesSpec.post enc Try.prog Try.f3 false true false false) := by
  refine returnsInHanded_of_change (C := Try.checked) own started (by kernel_rfl) Try.func3
    (ChangeSpec.witness6 (enc := enc) (C := Try.checked) false ⟨#[], #[.string ⟨#[]⟩, .int .i64 0], []⟩ 8 (by kernel_rfl) (by kernel_rfl) (by kernel_rfl) (by kernel_rfl)) ?_
  intro W base args ds gs before hval0 hW hcnd _
  have hval : ∀ (j : Nat) t v, Try.f3.params[j]? = some t → args[j]? = some v → Value.okWide Try.prog W .any base t v := hval0
  have hW' := hW
  obtain ⟨p, q, hA0, hV, rfl, hfz, hnd⟩ := hW
  have hA : DataW.TrodAll enc Try.prog W 0 (fun _ => true) true Try.f3.params.toList args.toList ds p := hA0
  rw [Try.params3] at hA hval
  obtain ⟨v0, vs0, d0, ds0, p0, q0, hargs, rfl, rfl, h0, r0⟩ := trodAll_cons hA
  obtain ⟨v1, vs1, d1, ds1, p1, q1, rfl, rfl, rfl, h1, r1⟩ := trodAll_cons r0
  obtain ⟨rfl, rfl, rfl⟩ := trodAll_nil r1
  obtain rfl : args = #[v0, v1] := by cases args; simp_all
  obtain ⟨rfl, rfl⟩ := trodVars_none hV
  have k0 := h0
  have lt0 : ∀ x ∈ p0, x.block < W.heap.size := by obtain ⟨m, hm⟩ := k0; exact DataW.trod_lt m _ _ _ hm
  have k1 := h1
  have lt1 : ∀ x ∈ p1, x.block < W.heap.size := by obtain ⟨m, hm⟩ := k1; exact DataW.trod_lt m _ _ _ hm
  obtain ⟨s, rfl, rfl, rfl, hs⟩ := open_string Try.underlying9 (hval 0 9 v0 rfl rfl) h0
  obtain ⟨q, rfl, rfl, rfl, wq⟩ := open_int Try.underlying3 (hval 1 3 v1 rfl rfl) h1
  clear hA0 hval0
  refine (walk s hs q (bounds_i64 wq) W).mono fun e W' ⟨he, bel⟩ => ?_
  subst he
  exact ⟨_, rfl, _, _, _, [], _, [], hW', trodAll_mk1 (shut_bool Try.underlying4 _), (trodAll_cons_mk (Below.trod laidOut (by kernel_rfl) (of_decide_eq_true (by kernel_rfl)) k0 bel lt0) (trodAll_cons_mk (Below.trod laidOut (by kernel_rfl) (of_decide_eq_true (by kernel_rfl)) k1 bel lt1) trodAll_mk0)), rfl, bel.frame _, fun h => by cases h⟩

theorem proved : Rows.FnExactTxtLinesSaid :=
  OpenClaim.holds_of_wide 3 Try.f3 rfl rfl rfl rfl rfl rfl rfl ⟨rfl, rfl, rfl, rfl, rfl⟩ rfl rfl rfl rfl rfl (by kernel_rfl) Try.func3 (by kernel_rfl)
    (of_decide_eq_true (by kernel_rfl)) (by unfold Func.isWrapper; first | (rw [if_pos (by decide +kernel)]; kernel_rfl) | (rw [if_neg (by decide +kernel)]; exact ⟨rfl, rfl⟩))
    (fun os started H enc _ => lifted os started H enc)
#print axioms proved
end Go.Proofs.Ytgnaaeonklongar.fnExactTxtLines
