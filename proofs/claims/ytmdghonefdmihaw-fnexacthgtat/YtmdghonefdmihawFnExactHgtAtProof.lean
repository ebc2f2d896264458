/- PROVED: at every list of numbers and every number the law FnExactHgtAt returns true (the program's HgtAt answers as the model's) and its arguments read as before; no condition. -/
import Derived.Test.YtmdghonefdmihawHgtAI
import Derived.Test.YtmdghonefdmihawHgtAS
import Derived.Test.YtmdghonefdmihawIntTo
import Derived.Test.YtmdghonefdmihawOpenInts
import Derived.WalkKit
import Derived.ProofKit
import Derived.OpenShut
import Derived.ShutString
import Derived.ChangeOld
import Derived.Below
import Derived.Lib.SmallJoins
namespace Go.Proofs.Ytmdghonefdmihaw.fnExactHgtAt
open Go.ChangeShapes Go.WideShapes Go.ChangeAt Go.RowKit Go.Joins Go.Deep
open Go.ChangeMaps (open_string shut_string)

set_option maxRecDepth 100000 in
set_option maxHeartbeats 2000000 in
theorem walk (v : Value) (l : List Int) (col : Int) (w : World) (h : IntsAt w v l) :
    Calls Try.prog 5 #[v, .int .i64 col] w fun e w' => e = .returned (.bool true) ∧ Below w.heap.size w w' := by
  obtain ⟨a, cap, rfl, hlen⟩ := h.form
  have H := Hid.intro h
  clear h
  by_cases hbig : (1048576 : Int) < (l.length : Int)
  · go_enter Try.func5, Try.ntmps5
    go_wp2
    go_ret
    exact ⟨rfl, Below.refl _ _⟩
  · have hl : l.length ≤ 1048576 := by omega
    have HS := Hid.intro (fun v W => specHgtAt v l col W)
    have HI := Hid.intro (fun v W => implHgtAt v l col W)
    go_enter Try.func5, Try.ntmps5
    go_wp2_with fail
    refine (toIntS_any _ l hl _ H.out).mono ?_
    rintro e w1 ⟨a1, c1, rfl, hr1, hb1⟩
    have R1 := Hid.intro hr1.at
    have K1 := Hid.intro hb1
    clear hr1 hb1
    go_wp2_with fail
    refine (HS.out _ _ R1.out).mono ?_
    rintro e w2 ⟨rfl, e2⟩
    have K2 : Hid (Below w.heap.size w w2) := by rw [e2]; exact K1.out
    clear e2
    generalize atV l 0 col = y at HS HI ⊢
    have hyy : (y != y) = false := by simp
    go_wp2_with fail
    refine (toIntS_any _ l hl _ (H.out.kept K2.out)).mono ?_
    rintro e w3 ⟨a3, c3, rfl, hr3, hb3⟩
    have R3 := Hid.intro hr3.at
    have K3 := Hid.intro (k_trans K2.out hb3)
    clear hr3 hb3
    go_wp2_with fail
    refine (HI.out _ _ R3.out).mono ?_
    rintro e w4 ⟨rfl, e4⟩
    have K4 : Hid (Below w.heap.size w w4) := by rw [e4]; exact K3.out
    have R4 : Hid (IntsAt w4 (.slice a3 l.length c3) l) := by rw [e4]; exact R3.out
    clear e4
    go_wp2_with fail
    refine (toIntS_any _ l hl _ (H.out.kept K4.out)).mono ?_
    rintro e w5 ⟨a5, c5, rfl, hr5, hb5⟩
    have R5 := Hid.intro hr5.at
    have X5 := Hid.intro (R4.out.kept hb5)
    have K5 := Hid.intro (k_trans K4.out hb5)
    clear hr5 hb5
    go_wp2_with fail
    refine (eqIntS_any _ _ l _ X5.out R5.out).mono ?_
    rintro e w6 ⟨rfl, n6, rfl⟩
    have K6 := Hid.intro (k_drewN K5.out n6)
    go_wp2
    go_ret
    exact ⟨rfl, K6.out⟩

set_option linter.unusedVariables false in
set_option maxRecDepth 100000 in
theorem lifted (os : Os) (started : os.Started) (H : Type) (enc : TypeId × Value → H) :
    ReturnsInHanded {} Try.checked os 5 .any (Rows.fnExactHgtAtSpec.pre6 enc Try.prog Try.f5 Rows.fnExactHgtAtRow.domain false) (Rows.fnExactHgtAtSpec.post enc Try.prog Try.f5 false true false false) := by
  refine returnsInHanded_of_change (C := Try.checked) own started (by kernel_rfl) Try.func5
    (ChangeSpec.witness6 (enc := enc) (C := Try.checked) false ⟨#[], #[.slice none 0 0, .int .i64 0], []⟩ 8 (by kernel_rfl) (by kernel_rfl) (by kernel_rfl) (by kernel_rfl)) ?_
  intro W base args ds gs before hval0 hW hcnd _
  have hval : ∀ (j : Nat) t v, Try.f5.params[j]? = some t → args[j]? = some v → Value.okWide Try.prog W .any base t v := hval0
  have hW' := hW
  obtain ⟨p, q, hA0, hV, rfl, hfz, hnd⟩ := hW
  have hA : DataW.TrodAll enc Try.prog W 0 (fun _ => true) true Try.f5.params.toList args.toList ds p := hA0
  rw [Try.params5] at hA hval
  obtain ⟨v0, vs0, d0, ds0, p0, q0, hargs, rfl, rfl, h0, r0⟩ := trodAll_cons hA
  obtain ⟨v1, vs1, d1, ds1, p1, q1, rfl, rfl, rfl, h1, r1⟩ := trodAll_cons r0
  obtain ⟨rfl, rfl, rfl⟩ := trodAll_nil r1
  obtain rfl : args = #[v0, v1] := by cases args; simp_all
  obtain ⟨rfl, rfl⟩ := trodVars_none hV
  have k0 := h0
  have lt0 : ∀ x ∈ p0, x.block < W.heap.size := by obtain ⟨m, hm⟩ := k0; exact DataW.trod_lt m _ _ _ hm
  have k1 := h1
  have lt1 : ∀ x ∈ p1, x.block < W.heap.size := by obtain ⟨m, hm⟩ := k1; exact DataW.trod_lt m _ _ _ hm
  obtain ⟨a0, len0, cap0, rfl⟩ := okWide_slice Try.underlying22 (hval 0 22 v0 rfl rfl)
  obtain ⟨fuel0, hf0⟩ := h0
  obtain ⟨v, l, hv, hl⟩ := openInts hf0
  obtain rfl : v = .slice a0 len0 cap0 := by simpa [Value.cells] using hv.symm
  obtain ⟨q1, rfl, rfl, rfl, wq1⟩ := open_int Try.underlying3 (hval 1 3 v1 rfl rfl) h1
  clear hA0 hval0
  refine (walk _ l q1 W hl).mono fun e W' ⟨he, bel⟩ => ?_
  subst he
  exact ⟨_, rfl, _, _, _, [], _, [], hW', trodAll_mk1 (shut_bool Try.underlying4 _), (trodAll_cons_mk (Below.trod laidOut (by kernel_rfl) (of_decide_eq_true (by kernel_rfl)) k0 bel lt0) (trodAll_cons_mk (Below.trod laidOut (by kernel_rfl) (of_decide_eq_true (by kernel_rfl)) k1 bel lt1) trodAll_mk0)), rfl, bel.frame _, fun h => by cases h⟩

theorem proved : Rows.FnExactHgtAtSaid :=
  OpenClaim.holds_of_wide 5 Try.f5 rfl rfl rfl rfl rfl rfl rfl ⟨rfl, rfl, rfl, rfl, rfl⟩ rfl rfl rfl rfl rfl (by kernel_rfl) Try.func5 (by kernel_rfl)
    (of_decide_eq_true (by kernel_rfl)) (by unfold Func.isWrapper; first | (rw [if_pos (by decide +kernel)]; kernel_rfl) | (rw [if_neg (by decide +kernel)]; exact ⟨rfl, rfl⟩))
    (fun os started H enc _ => lifted os started H enc)
#print axioms proved
end Go.Proofs.Ytmdghonefdmihaw.fnExactHgtAt
