/- PROVED: at every number and every list of numbers the law FnExactShrUpTo returns true (the program's ShrUpTo answers as the model's, and its answer owns its memory) and its arguments read as before; no condition. -/
import Derived.Test.YtgcobajekffmoauUpTo
import Derived.Test.YtgcobajekffmoauIntTo
import Derived.Test.YtgcobajekffmoauIntMark
import Derived.Test.YtgcobajekffmoauOpenInts
import Derived.WalkKit
import Derived.ProofKit
import Derived.OpenShut
import Derived.ShutString
import Derived.ChangeOld
import Derived.Below
import Derived.Lib.SmallJoins
namespace Go.Proofs.Ytgcobajekffmoau.fnExactShrUpTo
open Go.ChangeShapes Go.WideShapes Go.ChangeAt Go.RowKit Go.Joins Go.Deep
open Go.ChangeMaps (open_string shut_string)

theorem len_le (t : Int) (l : List Int) : (upToL t l).length ≤ l.length := by
  unfold upToL
  split
  · split
    · exact Nat.le_refl _
    · exact Nat.le_of_eq (shareL_len (by assumption))
  · exact Nat.zero_le _
set_option maxRecDepth 100000 in
set_option maxHeartbeats 4000000 in
theorem walk (t : Int) (v : Value) (l : List Int) (w : World) (h : IntsAt w v l) :
    Calls Try.prog 5 #[.int .i64 t, v] w fun e w' => e = .returned (.bool true) ∧ Below w.heap.size w w' := by
  obtain ⟨a, cap, rfl, hlen⟩ := h.form
  have H := Hid.intro h
  clear h
  by_cases hbig : (1048576 : Int) < (l.length : Int)
  · go_enter Try.func5, Try.ntmps5
    go_wp2
    go_ret
    exact ⟨rfl, Below.refl _ _⟩
  · have hl : l.length ≤ 1048576 := by omega
    have hL := Nat.le_trans (len_le t l) hl
    have H1 := Hid.intro (fun v W (h : IntsAt W v l) => specShrUpTo t v l W h)
    have H2 := Hid.intro (fun v W (h : IntsAt W v l) => implShrUpTo t v l W h)
    generalize upToL t l = L at hL H1 H2
    generalize upToN t l = y at H1 H2
    have hyy : (y != y) = false := by simp
    have hq0 : ¬ (1 + (L.length : Int)) < 0 := by omega
    have hne : ((1 + (L.length : Int)) != (1 + (L.length : Int))) = false := by simp
    have hk0 : ¬ (1 + (l.length : Int)) < 0 := by omega
    go_enter Try.func5, Try.ntmps5
    go_wp2_with fail
    refine (toIntS_any _ l hl _ H.out).mono ?_
    rintro e w1 ⟨a1, c1, rfl, hr, hb⟩
    have X1 := Hid.intro hr.at
    have K1 := Hid.intro hb
    clear hr hb
    go_wp2_with fail
    refine (H1.out _ _ X1.out).mono ?_
    rintro e w2 ⟨v2, rfl, hr, hb⟩
    obtain ⟨a2, c2, rfl⟩ := hr.form
    have R2 := Hid.intro hr
    have K2 := Hid.intro (k_trans K1.out hb)
    have z2 := hb.size
    clear hr hb X1
    go_wp2_with fail
    refine (toIntS_any _ l hl _ (H.out.kept K2.out)).mono ?_
    rintro e w3 ⟨a3, c3, rfl, hr, hb⟩
    have X3 := Hid.intro hr
    have R3 := Hid.intro (R2.out.below hb (Nat.le_refl _))
    have K3 := Hid.intro (k_trans K2.out hb)
    have z3 := hb.size
    clear hr hb R2
    go_wp2_with fail
    refine (H2.out _ _ X3.out.at).mono ?_
    rintro e w4 ⟨v4, rfl, hr, hb⟩
    obtain ⟨a4, c4, rfl⟩ := hr.form
    have G4 := Hid.intro hr
    have X4 := Hid.intro (X3.out.below hb (Nat.le_refl _))
    have R4 := Hid.intro (R3.out.below hb z3)
    have K4 := Hid.intro (k_trans K3.out hb)
    have z4 := hb.size
    clear hr hb X3 R3
    go_wp2_with fail
    refine (eqIntS_any _ _ L _ G4.out.at R4.out.at).mono ?_
    rintro e w5 ⟨rfl, n5, e5⟩
    have G5 : Hid (RowI w5 w3.heap.size w4.heap.size (.slice a4 L.length c4) L) := by rw [e5]; exact G4.out
    have X5 : Hid (RowI w5 w2.heap.size w3.heap.size (.slice a3 l.length c3) l) := by rw [e5]; exact X4.out
    have R5 : Hid (RowI w5 w1.heap.size w2.heap.size (.slice a2 L.length c2) L) := by rw [e5]; exact R4.out
    have K5 : Hid (Below w.heap.size w w5) := by rw [e5]; exact k_drewN K4.out n5
    have y5 : w4.heap.size ≤ w5.heap.size := by rw [e5]; exact Nat.le_refl _
    clear e5 G4 X4 R4 K4
    go_wp2_with fail
    refine (toIntS_any _ l hl _ (H.out.kept K5.out)).mono ?_
    rintro e w6 ⟨a6, c6, rfl, hr, hb⟩
    have Y6 := Hid.intro hr.at
    have G6 := Hid.intro (G5.out.below hb y5)
    have X6 := Hid.intro (X5.out.below hb (Nat.le_trans z4 y5))
    have R6 := Hid.intro (R5.out.below hb (Nat.le_trans (Nat.le_trans z3 z4) y5))
    have K6 := Hid.intro (k_trans K5.out hb)
    have y6 := Nat.le_trans y5 hb.size
    clear hr hb G5 X5 R5
    go_wp2_with fail
    refine (eqIntS_any _ _ l _ X6.out.at Y6.out).mono ?_
    rintro e w7 ⟨rfl, n7, e7⟩
    have G7 : Hid (RowI w7 w3.heap.size w4.heap.size (.slice a4 L.length c4) L) := by rw [e7]; exact G6.out
    have X7 : Hid (RowI w7 w2.heap.size w3.heap.size (.slice a3 l.length c3) l) := by rw [e7]; exact X6.out
    have R7 : Hid (RowI w7 w1.heap.size w2.heap.size (.slice a2 L.length c2) L) := by rw [e7]; exact R6.out
    have K7 : Hid (Below w.heap.size w w7) := by rw [e7]; exact k_drewN K6.out n7
    have y7 : w4.heap.size ≤ w7.heap.size := by rw [e7]; exact y6
    clear e7 G6 X6 R6 Y6
    go_wp2_with fail
    refine (markIntS_any _ l hl _ _ _ X7.out).mono ?_
    rintro e w8 ⟨rfl, _, ho⟩
    have G8 := Hid.intro (G7.out.out ho (.inr (Nat.le_refl _)))
    have R8 := Hid.intro (R7.out.out ho (.inl (Nat.le_refl _)))
    have K8 := Hid.intro (K7.out.trans (ho.below.mono (Nat.le_trans K1.out.size z2)))
    have y8 := Nat.le_trans y7 ho.below.size
    clear ho X7 G7 R7
    go_wp2_with fail
    refine (eqIntS_any _ _ L _ G8.out.at R8.out.at).mono ?_
    rintro e w9 ⟨rfl, n9, e9⟩
    have G9 : Hid (RowI w9 w3.heap.size w4.heap.size (.slice a4 L.length c4) L) := by rw [e9]; exact G8.out
    have R9 : Hid (RowI w9 w1.heap.size w2.heap.size (.slice a2 L.length c2) L) := by rw [e9]; exact R8.out
    have K9 : Hid (Below w.heap.size w w9) := by rw [e9]; exact k_drewN K8.out n9
    have y9 : w4.heap.size ≤ w9.heap.size := by rw [e9]; exact y8
    clear e9 G8 R8
    go_wp2_with fail
    refine (markIntS_any _ L hL _ _ _ G9.out).mono ?_
    rintro e w10 ⟨rfl, hr, ho⟩
    have G10 := Hid.intro hr
    have R10 := Hid.intro (R9.out.out ho (.inl z3))
    have K10 := Hid.intro (K9.out.trans (ho.below.mono (Nat.le_trans (Nat.le_trans K1.out.size z2) z3)))
    have y10 := Nat.le_trans y9 ho.below.size
    clear hr ho G9 R9
    go_wp2_with fail
    refine (heldIntS_any _ L hL _ _ _ G10.out).mono ?_
    rintro e w11 ⟨rfl, n11, e11⟩
    have G11 : Hid (RowI w11 w3.heap.size w4.heap.size (.slice a4 L.length c4) (markedI L L.length)) := by rw [e11]; exact G10.out
    have R11 : Hid (RowI w11 w1.heap.size w2.heap.size (.slice a2 L.length c2) L) := by rw [e11]; exact R10.out
    have K11 : Hid (Below w.heap.size w w11) := by rw [e11]; exact k_drewN K10.out n11
    have y11 : w4.heap.size ≤ w11.heap.size := by rw [e11]; exact y10
    clear e11 G10 R10
    go_wp2_with fail
    refine (toIntS_any _ l hl _ (H.out.kept K11.out)).mono ?_
    rintro e w12 ⟨a12, c12, rfl, hr, hb⟩
    have X12 := Hid.intro hr.at
    have G12 := Hid.intro (G11.out.below hb y11)
    have R12 := Hid.intro (R11.out.below hb (Nat.le_trans (Nat.le_trans z3 z4) y11))
    have K12 := Hid.intro (k_trans K11.out hb)
    have y12 := Nat.le_trans y11 hb.size
    clear hr hb G11 R11
    go_wp2_with fail
    refine (H2.out _ _ X12.out).mono ?_
    rintro e w13 ⟨v13, rfl, hr, hb⟩
    obtain ⟨a13, c13, rfl⟩ := hr.form
    have V13 := Hid.intro hr.at
    have G13 := Hid.intro (G12.out.below hb y12)
    have R13 := Hid.intro (R12.out.below hb (Nat.le_trans (Nat.le_trans z3 z4) y12))
    have K13 := Hid.intro (k_trans K12.out hb)
    clear hr hb G12 R12 X12
    go_wp2_with fail
    refine (eqIntS_any _ _ L _ V13.out R13.out.at).mono ?_
    rintro e w14 ⟨rfl, n14, e14⟩
    have G14 : Hid (RowI w14 w3.heap.size w4.heap.size (.slice a4 L.length c4) (markedI L L.length)) := by rw [e14]; exact G13.out
    have K14 : Hid (Below w.heap.size w w14) := by rw [e14]; exact k_drewN K13.out n14
    clear e14 G13 R13 V13
    go_wp2_with fail
    refine (heldIntS_any _ L hL _ _ _ G14.out).mono ?_
    rintro e w15 ⟨rfl, n15, e15⟩
    have K15 : Hid (Below w.heap.size w w15) := by rw [e15]; exact k_drewN K14.out n15
    clear e15
    go_wp2
    go_ret
    exact ⟨rfl, K15.out⟩

set_option linter.unusedVariables false in
set_option maxRecDepth 100000 in
theorem lifted (os : Os) (started : os.Started) (H : Type) (enc : TypeId × Value → H) :
    ReturnsInHanded {} Try.checked os 5 .any (Rows.fnExactShrUpToSpec.pre6 enc Try.prog Try.f5 Rows.fnExactShrUpToRow.domain false) (Rows.fnExactShrUpToSpec.post enc Try.prog Try.f5 false true false false) := by
  refine returnsInHanded_of_change (C := Try.checked) own started (by kernel_rfl) Try.func5
    (ChangeSpec.witness6 (enc := enc) (C := Try.checked) false ⟨#[], #[.int .i64 0, .slice none 0 0], []⟩ 8 (by kernel_rfl) (by kernel_rfl) (by kernel_rfl) (by kernel_rfl)) ?_
  intro W base args ds gs before hval0 hW hcnd _
  have hval : ∀ (j : Nat) t v, Try.f5.params[j]? = some t → args[j]? = some v → Value.okWide Try.prog W .any base t v := hval0
  have hW' := hW
  obtain ⟨p, q, hA0, hV, rfl, hfz, hnd⟩ := hW
  have hA : DataW.TrodAll enc Try.prog W 0 (fun _ => true) true Try.f5.params.toList args.toList ds p := hA0
  rw [Try.params5] at hA hval
  obtain ⟨v0, vs0, d0, ds0, p0, q0, hargs, rfl, rfl, h0, r0⟩ := trodAll_cons hA
  obtain ⟨v1, vs1, d1, ds1, p1, q1, rfl, rfl, rfl, h1, r1⟩ := trodAll_cons r0
  obtain ⟨rfl, rfl, rfl⟩ := trodAll_nil r1
  obtain rfl : args = #[v0, v1] := by cases args; simp_all
  obtain ⟨rfl, rfl⟩ := trodVars_none hV
  have k0 := h0
  have lt0 : ∀ x ∈ p0, x.block < W.heap.size := by obtain ⟨m, hm⟩ := k0; exact DataW.trod_lt m _ _ _ hm
  have k1 := h1
  have lt1 : ∀ x ∈ p1, x.block < W.heap.size := by obtain ⟨m, hm⟩ := k1; exact DataW.trod_lt m _ _ _ hm
  obtain ⟨t0, rfl, rfl, rfl, wt0⟩ := open_int Try.underlying3 (hval 0 3 v0 rfl rfl) h0
  obtain ⟨a0, len0, cap0, rfl⟩ := okWide_slice Try.underlying22 (hval 1 22 v1 rfl rfl)
  obtain ⟨fuel0, hf0⟩ := h1
  obtain ⟨v, l, hv, hl⟩ := openInts hf0
  obtain rfl : v = .slice a0 len0 cap0 := by simpa [Value.cells] using hv.symm
  clear hA0 hval0
  refine (walk t0 _ l W hl).mono fun e W' ⟨he, bel⟩ => ?_
  subst he
  exact ⟨_, rfl, _, _, _, [], _, [], hW', trodAll_mk1 (shut_bool Try.underlying4 _), (trodAll_cons_mk (Below.trod laidOut (by kernel_rfl) (of_decide_eq_true (by kernel_rfl)) k0 bel lt0) (trodAll_cons_mk (Below.trod laidOut (by kernel_rfl) (of_decide_eq_true (by kernel_rfl)) k1 bel lt1) trodAll_mk0)), rfl, bel.frame _, fun h => by cases h⟩

theorem proved : Rows.FnExactShrUpToSaid :=
  OpenClaim.holds_of_wide 5 Try.f5 rfl rfl rfl rfl rfl rfl rfl ⟨rfl, rfl, rfl, rfl, rfl⟩ rfl rfl rfl rfl rfl (by kernel_rfl) Try.func5 (by kernel_rfl)
    (of_decide_eq_true (by kernel_rfl)) (by unfold Func.isWrapper; first | (rw [if_pos (by decide +kernel)]; kernel_rfl) | (rw [if_neg (by decide +kernel)]; exact ⟨rfl, rfl⟩))
    (fun os started H enc _ => lifted os started H enc)
#print axioms proved
end Go.Proofs.Ytgcobajekffmoau.fnExactShrUpTo
