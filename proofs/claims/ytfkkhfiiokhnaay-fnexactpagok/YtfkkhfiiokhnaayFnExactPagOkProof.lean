/- PROVED: at every table, every width and every heights the law FnExactPagOk returns true (the program's PagOk answers as the model's, and leaves its arguments as they were) and its arguments read as before; no condition. -/
import Derived.Test.YtfkkhfiiokhnaayOpenTbl
import Derived.Test.YtfkkhfiiokhnaayOpenInts
import Derived.Test.YtfkkhfiiokhnaayTblSz
import Derived.Test.YtfkkhfiiokhnaayTblTo
import Derived.Test.YtfkkhfiiokhnaayTblEq
import Derived.Test.YtfkkhfiiokhnaayIntTo
import Derived.Test.YtfkkhfiiokhnaayIntEq
import Derived.Test.YtfkkhfiiokhnaayPagOkI
import Derived.Test.YtfkkhfiiokhnaayPagOkS
import Derived.WalkKit
import Derived.ProofKit
import Derived.OpenShut
import Derived.ShutString
import Derived.ChangeOld
import Derived.Below
import Derived.Lib.SmallJoins
namespace Go.Proofs.Ytfkkhfiiokhnaay.fnExactPagOk
open Go.ChangeShapes Go.WideShapes Go.ChangeAt Go.RowKit Go.Joins Go.Deep
open Go.ChangeMaps (open_string shut_string)

theorem five_cells {w : World} {g : Nat} {x0 x1 x2 x3 x4 : Value} {t : TypeId} (h : w.heap[g]? = some (.cells #[x0, x1, x2, x3, x4] t)) :
    w.cell? ⟨g, 0, none⟩ = some x0 ∧ w.cell? ⟨g, 1, none⟩ = some x1 ∧ w.cell? ⟨g, 2, none⟩ = some x2 ∧ w.cell? ⟨g, 3, none⟩ = some x3 ∧ w.cell? ⟨g, 4, none⟩ = some x4 :=
  ⟨cellB h, cellB h, cellB h, cellB h, cellB h⟩
set_option maxRecDepth 100000 in
set_option maxHeartbeats 2000000 in
theorem walk (v : Value) (t : T) (q : Int) (vh : Value) (hs : List Int) (w : World) (h : TblAt w 0 v t) (hh : IntsAt w vh hs) :
    Calls Try.prog 3 #[v, .int .i64 q, vh] w fun e w' => e = .returned (.bool true) ∧ Below w.heap.size w w' := by
  obtain ⟨vc, vr, rfl, hc, hr⟩ := h
  obtain ⟨ac, cc, rfl, _⟩ := At.form hc
  obtain ⟨ar, cr, rfl, _⟩ := At.form hr
  have K0 := Hid.intro (k_alloc (Below.refl w.heap.size w) (.cells #[.slice ac t.cols.length cc, .int .i64 t.head, .int .i64 t.foot, .slice ar t.rows.length cr, .int .i64 t.gap] 25))
  have C0 := Hid.intro hc
  have R0 := Hid.intro hr
  clear hc hr
  have T0 : Hid (∀ w', Below w.heap.size w w' → TblAt w' 0 (.agg #[.slice ac t.cols.length cc, .int .i64 t.head, .int .i64 t.foot, .slice ar t.rows.length cr, .int .i64 t.gap]) t) := fun w' k => ⟨_, _, rfl, C0.out.kept k, R0.out.kept k⟩
  clear C0 R0
  obtain ⟨ah, ch, rfl, hlen⟩ := hh.form
  have I0 := Hid.intro hh
  clear hh
  by_cases hbig : (1048576 : Int) < (hs.length : Int)
  · go_enter Try.func3, Try.ntmps3
    go_wp2
    go_ret
    exact ⟨rfl, K0.out⟩
  have hl : hs.length ≤ 1048576 := by omega
  by_cases hn : totT t ≤ 1048576
  · have hn2 : totR t.rows ≤ 1048576 := by unfold totT at hn; omega
    have hg : ¬ (1048576 : Int) - (totT t : Int) < 0 := by omega
    have HL := Hid.intro (leftOf_pos (n := 1048576) (m := totT t) (by omega))
    go_enter Try.func3, Try.ntmps3
    go_wp2_with fail
    refine (szTblTable_any _ t _ (T0.out _ K0.out)).mono ?_
    rw [HL.out]
    rintro e w1 ⟨rfl, hb1⟩
    obtain ⟨hc1, hf1⟩ := bcell hb1
    have hx1 : w.heap.size < w1.heap.size := by have := hb1.size; simp at this; omega
    have K1 := Hid.intro (k_trans K0.out hb1)
    have L1 := Hid.intro hb1
    clear hb1
    go_wp2_with fail
    refine (toTblTable_any _ t hn _ (T0.out _ K1.out)).mono ?_
    rintro e w2 ⟨ac2, cc2, ar2, cr2, rfl, hC2, hR2, hb2⟩
    obtain ⟨hc2, hf2⟩ := bcell hb2
    have hx2 : w.heap.size < w2.heap.size := by have := hb2.size; omega
    have K2 := Hid.intro (k_trans K1.out hb2)
    have L2 := Hid.intro (k_trans L1.out hb2)
    have C2 := Hid.intro hC2
    have R2 := Hid.intro hR2
    clear hb2 hC2 hR2
    go_wp2_with fail
    refine (toIntS_any _ hs hl _ (I0.out.kept K2.out)).mono ?_
    rintro e w9 ⟨a9, c9, rfl, hr9, hb9⟩
    obtain ⟨hc9, hf9⟩ := bcell hb9
    have hx9 : w.heap.size < w9.heap.size := by have := hb9.size; omega
    have K9 := Hid.intro (k_trans K2.out hb9)
    have L9 := Hid.intro (k_trans L2.out hb9)
    have C9 := Hid.intro (C2.out.kept hb9)
    have R9 := Hid.intro (R2.out.kept hb9)
    have I9 := Hid.intro hr9.at
    clear hb9 hr9 C2 R2
    go_wp2_with fail
    refine (specPagOk ac2 ar2 cc2 cr2 t q _ hs _ C9.out R9.out I9.out).mono ?_
    rintro e w3 ⟨rfl, hb3⟩
    obtain ⟨hc3, hf3⟩ := bcell hb3
    have hx3 : w.heap.size < w3.heap.size := by have := hb3.size; omega
    have K3 := Hid.intro (k_trans K9.out hb3)
    have L3 := Hid.intro (k_trans L9.out hb3)
    clear hb3 C9 R9 I9
    go_wp2_with fail
    refine (toTblTable_any _ t hn _ (T0.out _ K3.out)).mono ?_
    rintro e w4 ⟨ac4, cc4, ar4, cr4, rfl, hC4, hR4, hb4⟩
    obtain ⟨hc4, hf4⟩ := bcell hb4
    have hx4 : w.heap.size < w4.heap.size := by have := hb4.size; omega
    have K4 := Hid.intro (k_trans K3.out hb4)
    have L4 := Hid.intro (k_trans L3.out hb4)
    have C4 := Hid.intro (hC4.kept (k_alloc (Below.refl _ _) (.cells #[.slice ac4 t.cols.length cc4, .int .i64 t.head, .int .i64 t.foot, .slice ar4 t.rows.length cr4, .int .i64 t.gap] 32)))
    have R4 := Hid.intro (hR4.kept (k_alloc (Below.refl _ _) (.cells #[.slice ac4 t.cols.length cc4, .int .i64 t.head, .int .i64 t.foot, .slice ar4 t.rows.length cr4, .int .i64 t.gap] 32)))
    clear hb4 hC4 hR4
    go_wp2_with fail
    refine (toIntS_any _ hs hl _ (I0.out.kept (k_alloc K4.out (.cells #[.slice ac4 t.cols.length cc4, .int .i64 t.head, .int .i64 t.foot, .slice ar4 t.rows.length cr4, .int .i64 t.gap] 32)))).mono ?_
    rintro e w8 ⟨a8, c8, rfl, hr8, hb8⟩
    have hy8 : w4.heap.size < w8.heap.size := by have := hb8.size; simp at this; omega
    have B8 := Hid.intro ((hb8.block w4.heap.size (by simp)).trans (newestB _ _))
    have K8 := Hid.intro (k_trans (k_alloc K4.out (.cells #[.slice ac4 t.cols.length cc4, .int .i64 t.head, .int .i64 t.foot, .slice ar4 t.rows.length cr4, .int .i64 t.gap] 32)) hb8)
    have L8 := Hid.intro (k_trans (k_alloc L4.out (.cells #[.slice ac4 t.cols.length cc4, .int .i64 t.head, .int .i64 t.foot, .slice ar4 t.rows.length cr4, .int .i64 t.gap] 32)) hb8)
    have C8 := Hid.intro (C4.out.kept hb8)
    have R8 := Hid.intro (R4.out.kept hb8)
    have I8 := Hid.intro hr8.at
    obtain ⟨o0, o1, o2, o3, o4⟩ := five_cells B8.out
    clear hb8 hr8 C4 R4 hc1 hf1 hc2 hf2 hc3 hf3 hc4 hf4 hc9 hf9
    go_wp2_with fail
    refine (implPagOk ac4 ar4 cc4 cr4 t q _ hs _ C8.out R8.out I8.out).mono ?_
    rintro e w5 ⟨rfl, hb5⟩
    have hy5 : w4.heap.size < w5.heap.size := by have := hb5.size; omega
    have hx5 : w.heap.size < w5.heap.size := by omega
    have K5 := Hid.intro (k_trans K8.out hb5)
    have L5 := Hid.intro (k_trans L8.out hb5)
    have A5 := Hid.intro ((L5.out.block w.heap.size (by simp)).trans (newestB _ _))
    have B5 := Hid.intro ((hb5.block w4.heap.size hy8).trans B8.out)
    obtain ⟨m0, m1, m2, m3, m4⟩ := five_cells A5.out
    obtain ⟨n0, n1, n2, n3, n4⟩ := five_cells B5.out
    have C5 := Hid.intro (C8.out.kept hb5)
    have R5 := Hid.intro (R8.out.kept hb5)
    have I5 := Hid.intro (I8.out.kept hb5)
    clear o0 o1 o2 o3 o4 C8 R8 I8
    generalize pagB t q hs = y
    have hneq : (y != y) = false := by simp
    clear hb5
    go_wp2_with fail
    go_region_with (first
      | (go_at_call 9; refine (toTblTable_any _ t hn _ (T0.out _ (k_drew K5.out))).mono ?_; rintro e w6 ⟨ac6, cc6, ar6, cr6, rfl, hC6, hR6, hb6⟩; have K6 := Hid.intro (k_trans (k_drew K5.out) hb6); have C6 := Hid.intro hC6; have R6 := Hid.intro hR6; have I6 := Hid.intro (I5.out.kept (k_trans (k_drew (Below.refl _ _)) hb6)); have D6 := Hid.intro (C5.out.kept (k_trans (k_drew (Below.refl _ _)) hb6)); have E6 := Hid.intro (R5.out.kept (k_trans (k_drew (Below.refl _ _)) hb6)); have A6 := ((k_trans (k_drew L5.out) hb6).block w.heap.size (by simp)).trans (newestB _ _); have B6 := (hb6.block w4.heap.size hy5).trans B5.out; obtain ⟨r0, r1, r2, r3, r4⟩ := five_cells A6; obtain ⟨s0, s1, s2, s3, s4⟩ := five_cells B6; clear hb6 hC6 hR6 A6 B6)
      | (go_at_call 12; refine (eqTblTable_any _ _ t _ ⟨_, _, rfl, D6.out, E6.out⟩ ⟨_, _, rfl, C6.out, R6.out⟩).mono ?_; rintro e w7 ⟨rfl, hb7⟩; have K7 := Hid.intro (k_trans K6.out hb7); have I7 := Hid.intro (I6.out.kept hb7); clear hb7))
    all_goals
      go_wp2_with fail
      refine (toIntS_any _ hs hl _ (I0.out.kept K7.out)).mono ?_
      rintro e wa ⟨aa, ca, rfl, hra, hba⟩
      have Ka := Hid.intro (k_trans K7.out hba)
      have Ia := Hid.intro hra.at
      have Ja := Hid.intro (I7.out.kept hba)
      clear hba hra
      go_wp2_with fail
      refine (eqIntS_any _ _ hs _ Ja.out Ia.out).mono ?_
      rintro e wb ⟨rfl, nb, rfl⟩
      have Kb := Hid.intro (k_drewN Ka.out nb)
      go_wp2
      go_ret
      exact ⟨rfl, Kb.out⟩
  · have HL := Hid.intro (leftOf_neg (n := 1048576) (m := totT t) (by omega))
    go_enter Try.func3, Try.ntmps3
    go_wp2_with fail
    refine (szTblTable_any _ t _ (T0.out _ K0.out)).mono ?_
    rw [HL.out]
    rintro e w1 ⟨rfl, hb1⟩
    have K1 := Hid.intro (k_trans K0.out hb1)
    clear hb1
    go_wp2
    go_ret
    exact ⟨rfl, K1.out⟩
theorem arr_of {cs : Array Value} {l : List Value} (h : cs.toList = l) : cs = l.toArray := by cases cs; simpa using h

set_option linter.unusedVariables false in
set_option maxRecDepth 100000 in
theorem lifted (os : Os) (started : os.Started) (H : Type) (enc : TypeId × Value → H) :
    ReturnsInHanded {} Try.checked os 3 .any (Rows.fnExactPagOkSpec.pre6 enc Try.prog Try.f3 Rows.fnExactPagOkRow.domain false) (Rows.fnExactPagOkSpec.post enc Try.prog Try.f3 false true false false) := by
  refine returnsInHanded_of_change (C := Try.checked) own started (by kernel_rfl) Try.func3
    (ChangeSpec.witness6 (enc := enc) (C := Try.checked) false ⟨#[], #[.agg #[.slice none 0 0, .int .i64 0, .int .i64 0, .slice none 0 0, .int .i64 0], .int .i64 0, .slice none 0 0], []⟩ 8 (by kernel_rfl) (by kernel_rfl) (by kernel_rfl) (by kernel_rfl)) ?_
  intro W base args ds gs before hval0 hW hcnd _
  have hval : ∀ (j : Nat) t v, Try.f3.params[j]? = some t → args[j]? = some v → Value.okWide Try.prog W .any base t v := hval0
  have hW' := hW
  obtain ⟨p, q, hA0, hV, rfl, hfz, hnd⟩ := hW
  have hA : DataW.TrodAll enc Try.prog W 0 (fun _ => true) true Try.f3.params.toList args.toList ds p := hA0
  rw [Try.params3] at hA hval
  obtain ⟨v0, vs0, d0, ds0, p0, q0, hargs, rfl, rfl, h0, r0⟩ := trodAll_cons hA
  obtain ⟨v1, vs1, d1, ds1, p1, q1, rfl, rfl, rfl, h1, r1⟩ := trodAll_cons r0
  obtain ⟨v2, vs2, d2, ds2, p2, q2, rfl, rfl, rfl, h2, r2⟩ := trodAll_cons r1
  obtain ⟨rfl, rfl, rfl⟩ := trodAll_nil r2
  obtain rfl : args = #[v0, v1, v2] := by cases args; simp_all
  obtain ⟨rfl, rfl⟩ := trodVars_none hV
  have k0 := h0
  have lt0 : ∀ x ∈ p0, x.block < W.heap.size := by obtain ⟨m, hm⟩ := k0; exact DataW.trod_lt m _ _ _ hm
  have k1 := h1
  have lt1 : ∀ x ∈ p1, x.block < W.heap.size := by obtain ⟨m, hm⟩ := k1; exact DataW.trod_lt m _ _ _ hm
  have k2 := h2
  have lt2 : ∀ x ∈ p2, x.block < W.heap.size := by obtain ⟨m, hm⟩ := k2; exact DataW.trod_lt m _ _ _ hm
  obtain ⟨cs0, rfl, hsz0⟩ := okWide_struct Try.underlying25 (hval 0 25 v0 rfl rfl)
  obtain ⟨fuel0, hf0⟩ := h0
  obtain ⟨t, ht⟩ := openTblL (by simpa [Value.cells] using hf0)
  obtain ⟨q, rfl, rfl, rfl, wq⟩ := open_int Try.underlying3 (hval 1 3 v1 rfl rfl) h1
  obtain ⟨a2, len2, cap2, rfl⟩ := okWide_slice Try.underlying26 (hval 2 26 v2 rfl rfl)
  obtain ⟨fuel2, hf2⟩ := h2
  obtain ⟨vh, l, hv, hl⟩ := openInts hf2
  obtain rfl : vh = .slice a2 len2 cap2 := by simpa [Value.cells] using hv.symm
  clear hA0 hval0
  refine (walk _ t q _ l W (by simpa using ht) hl).mono fun e W' ⟨he, bel⟩ => ?_
  subst he
  exact ⟨_, rfl, _, _, _, [], _, [], hW', trodAll_mk1 (shut_bool Try.underlying4 _), (trodAll_cons_mk (Below.trod laidOut (by kernel_rfl) (of_decide_eq_true (by kernel_rfl)) k0 bel lt0) (trodAll_cons_mk (Below.trod laidOut (by kernel_rfl) (of_decide_eq_true (by kernel_rfl)) k1 bel lt1) (trodAll_cons_mk (Below.trod laidOut (by kernel_rfl) (of_decide_eq_true (by kernel_rfl)) k2 bel lt2) trodAll_mk0))), rfl, bel.frame _, fun h => by cases h⟩

theorem proved : Rows.FnExactPagOkSaid :=
  OpenClaim.holds_of_wide 3 Try.f3 rfl rfl rfl rfl rfl rfl rfl ⟨rfl, rfl, rfl, rfl, rfl⟩ rfl rfl rfl rfl rfl (by kernel_rfl) Try.func3 (by kernel_rfl)
    (of_decide_eq_true (by kernel_rfl)) (by unfold Func.isWrapper; first | (rw [if_pos (by decide +kernel)]; kernel_rfl) | (rw [if_neg (by decide +kernel)]; exact ⟨rfl, rfl⟩))
    (fun os started H enc _ => lifted os started H enc)
#print axioms proved
end Go.Proofs.Ytfkkhfiiokhnaay.fnExactPagOk
