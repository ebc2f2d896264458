/- PROVED: at every table and place the law FnExactEdtRow returns true (the program's EdtRow answers as the model's, leaves its argument as it was, and its answer owns its memory) and its arguments read as before; no condition. -/
import Derived.Test.YtggmjiddadjilaoB19
import Derived.WalkKit
import Derived.ProofKit
import Derived.OpenShut
import Derived.ShutString
import Derived.ChangeOld
import Derived.Below
import Derived.Lib.SmallJoins
namespace Go.Proofs.Ytggmjiddadjilao.fnExactEdtRow
open Go.ChangeShapes Go.WideShapes Go.ChangeAt Go.RowKit Go.Joins Go.Deep
open Go.ChangeMaps (open_string shut_string)

set_option maxRecDepth 100000 in
set_option maxHeartbeats 8000000 in
theorem walk (v : Value) (t : T) (at' : Int) (w : World) (h : TblAt w 0 v t) :
    Calls Try.prog 7 #[v, .int .i64 at'] w fun e w' => e = .returned (.bool true) ∧ Below w.heap.size w w' := by
  obtain ⟨vc, vr, rfl, hc, hr⟩ := h
  obtain ⟨ac, cc, rfl, _⟩ := At.form hc
  obtain ⟨ar, cr, rfl, _⟩ := At.form hr
  have HK := Hid.intro (k_alloc (Below.refl w.heap.size w) (.cells #[.slice ac t.cols.length cc, .int .i64 t.head, .int .i64 t.foot, .slice ar t.rows.length cr, .int .i64 t.gap] 46))
  have HA := Hid.intro (newestB w (.cells #[.slice ac t.cols.length cc, .int .i64 t.head, .int .i64 t.foot, .slice ar t.rows.length cr, .int .i64 t.gap] 46))
  have HTx : Hid (TxM t) := txM_at hr
  have C0 := Hid.intro hc
  have R0 := Hid.intro hr
  clear hc hr
  have T0 : Hid (∀ w', Below w.heap.size w w' → TblAt w' 0 (.agg #[.slice ac t.cols.length cc, .int .i64 t.head, .int .i64 t.foot, .slice ar t.rows.length cr, .int .i64 t.gap]) t) := fun w' k => ⟨_, _, rfl, C0.out.kept k, R0.out.kept k⟩
  clear C0 R0

  by_cases hn : totT t ≤ 1048576
  · have hg : ¬ (1048576 : Int) - (totT t : Int) < 0 := by omega
    have HL := Hid.intro (leftOf_pos (n := 1048576) (m := totT t) (by omega))
    have HTe : Hid (TxM (edRow t at').1) := txM_row HTx.out
    have HSm : Hid (SmT (edRow t at').1) := smT_row
    have KSp := Hid.intro (fun (a b : Option Addr) (c d : Nat) (W : World) (z : Nat) (h1 : ColsAt W z (.slice a t.cols.length c) t.cols) (h2 : RowsAt W z (.slice b t.rows.length d) t.rows) => specEdtRow a b c d t at' W h1 h2)
    have KIm := Hid.intro (fun (a b : Option Addr) (c d : Nat) (W : World) (z : Nat) (h1 : ColsAt W z (.slice a t.cols.length c) t.cols) (h2 : RowsAt W z (.slice b t.rows.length d) t.rows) => implEdtRow a b c d t at' W h1 h2)
    generalize edRow t at' = E at HTe HSm KSp KIm
    have hbb : (E.2 != E.2) = false := by simp
    go_enter Try.func7, Try.ntmps7
    go_upto_region 1 with fail
    generalize w.alloc (.cells #[.slice ac t.cols.length cc, .int .i64 t.head, .int .i64 t.foot, .slice ar t.rows.length cr, .int .i64 t.gap] 46) = W0 at HK HA ⊢
    obtain ⟨m0, m1, m2, m3, m4⟩ := fiveO HA.out
    go_wp2_with fail
    refine (szTblTable_any _ t _ (T0.out _ HK.out)).mono ?_
    rw [HL.out]
    rintro e w1 ⟨rfl, hb1⟩
    replace HK := Hid.intro (k_trans HK.out hb1)
    replace HA := Hid.intro (box_kept HA.out hb1)
    clear m0 m1 m2 m3 m4
    clear hb1
    obtain ⟨m0, m1, m2, m3, m4⟩ := fiveO HA.out
    go_wp2_with fail
    refine (toTblTable_any _ t hn _ (T0.out _ HK.out)).mono ?_
    rintro e w2 ⟨ac2, cc2, ar2, cr2, rfl, hC2, hR2, hb2⟩
    have HC2 := Hid.intro hC2
    have HR2 := Hid.intro hR2
    replace HK := Hid.intro (k_trans HK.out hb2)
    replace HA := Hid.intro (box_kept HA.out hb2)
    clear m0 m1 m2 m3 m4
    clear hb2 hC2 hR2
    go_wp2_with fail
    refine (KSp.out ac2 ar2 cc2 cr2 _ _ HC2.out HR2.out).mono ?_
    rintro e w3 ⟨p1, q1, r1, s1, d1, d1', rfl, ⟨u1, hu1, hOc, hOr⟩, hb3⟩
    obtain ⟨_, _, e1, _⟩ := row_form hOc
    simp only [Value.slice.injEq] at e1
    have e1' := e1.2.1
    clear e1
    subst e1'
    obtain ⟨_, _, e2, _⟩ := row_form hOr.own
    simp only [Value.slice.injEq] at e2
    have e2' := e2.2.1
    clear e2
    subst e2'
    have HU1 := Hid.intro hu1
    have O1 := Hid.intro (OwnD.of hOc hOr)
    replace HK := Hid.intro (k_trans HK.out hb3)
    replace HA := Hid.intro (box_kept HA.out hb3)
    clear hb3 hOc hOr hu1 HC2 HR2
    replace HK := Hid.intro (k_trans HK.out (k_alloc (Below.refl _ _) (.cells #[.slice p1 E.1.cols.length q1, .int .i64 E.1.head, .int .i64 E.1.foot, .slice r1 u1.length s1, .int .i64 E.1.gap] 56)))
    replace HA := Hid.intro (box_kept HA.out (k_alloc (Below.refl _ _) (.cells #[.slice p1 E.1.cols.length q1, .int .i64 E.1.head, .int .i64 E.1.foot, .slice r1 u1.length s1, .int .i64 E.1.gap] 56)))
    replace O1 := Hid.intro (O1.out.kept (k_alloc (Below.refl _ _) (.cells #[.slice p1 E.1.cols.length q1, .int .i64 E.1.head, .int .i64 E.1.foot, .slice r1 u1.length s1, .int .i64 E.1.gap] 56)))
    have H10 := Hid.intro (newestB w3 (.cells #[.slice p1 E.1.cols.length q1, .int .i64 E.1.head, .int .i64 E.1.foot, .slice r1 u1.length s1, .int .i64 E.1.gap] 56))
    have hB10 : w3.heap.size < (w3.alloc (.cells #[.slice p1 E.1.cols.length q1, .int .i64 E.1.head, .int .i64 E.1.foot, .slice r1 u1.length s1, .int .i64 E.1.gap] 56)).heap.size := by simp
    go_upto_region 6 with fail
    generalize w3.alloc (.cells #[.slice p1 E.1.cols.length q1, .int .i64 E.1.head, .int .i64 E.1.foot, .slice r1 u1.length s1, .int .i64 E.1.gap] 56) = W3 at HK HA O1 H10 hB10 ⊢
    generalize w3.heap.size = b10 at O1 H10 hB10 ⊢
    have hAB : w.heap.size < W3.heap.size := (Array.getElem?_eq_some_iff.1 HA.out).1
    obtain ⟨m0, m1, m2, m3, m4⟩ := fiveO HA.out
    go_wp2_with fail
    refine (toTblTable_own _ t hn _ (T0.out _ HK.out)).mono ?_
    rintro e w4 ⟨p2, q2, r2, s2, rfl, ⟨u2, hu2, hOc, hOr⟩, hb4⟩
    obtain ⟨_, _, e2, _⟩ := row_form hOr.own
    simp only [Value.slice.injEq] at e2
    have hul : t.rows.length = u2.length := e2.2.1
    clear e2
    rw [hul]
    rw [hul] at hOr
    have HU2 := Hid.intro hu2
    have O2 := Hid.intro (OwnD.of hOc hOr)
    replace HK := Hid.intro (k_trans HK.out hb4)
    replace HA := Hid.intro (box_kept HA.out hb4)
    replace H10 := Hid.intro (box_kept H10.out hb4)
    replace O1 := Hid.intro (O1.out.kept hb4)
    clear m0 m1 m2 m3 m4
    have hD2 := hb4.size
    clear hb4 hOc hOr hu2 hul
    replace HK := Hid.intro (k_trans HK.out (k_alloc (Below.refl _ _) (.cells #[.slice p2 t.cols.length q2, .int .i64 t.head, .int .i64 t.foot, .slice r2 u2.length s2, .int .i64 t.gap] 56)))
    replace HA := Hid.intro (box_kept HA.out (k_alloc (Below.refl _ _) (.cells #[.slice p2 t.cols.length q2, .int .i64 t.head, .int .i64 t.foot, .slice r2 u2.length s2, .int .i64 t.gap] 56)))
    replace H10 := Hid.intro (box_kept H10.out (k_alloc (Below.refl _ _) (.cells #[.slice p2 t.cols.length q2, .int .i64 t.head, .int .i64 t.foot, .slice r2 u2.length s2, .int .i64 t.gap] 56)))
    replace O1 := Hid.intro (O1.out.kept (k_alloc (Below.refl _ _) (.cells #[.slice p2 t.cols.length q2, .int .i64 t.head, .int .i64 t.foot, .slice r2 u2.length s2, .int .i64 t.gap] 56)))
    replace O2 := Hid.intro (O2.out.kept (k_alloc (Below.refl _ _) (.cells #[.slice p2 t.cols.length q2, .int .i64 t.head, .int .i64 t.foot, .slice r2 u2.length s2, .int .i64 t.gap] 56)))
    have H12 := Hid.intro (newestB w4 (.cells #[.slice p2 t.cols.length q2, .int .i64 t.head, .int .i64 t.foot, .slice r2 u2.length s2, .int .i64 t.gap] 56))
    have hB12 : w4.heap.size < (w4.alloc (.cells #[.slice p2 t.cols.length q2, .int .i64 t.head, .int .i64 t.foot, .slice r2 u2.length s2, .int .i64 t.gap] 56)).heap.size := by simp
    go_upto_region 7 with fail
    generalize w4.alloc (.cells #[.slice p2 t.cols.length q2, .int .i64 t.head, .int .i64 t.foot, .slice r2 u2.length s2, .int .i64 t.gap] 56) = W4 at HK HA O1 O2 H10 H12 hB12 ⊢
    generalize w4.heap.size = b12 at O2 H12 hB12 hD2 ⊢
    generalize W3.heap.size = b2 at O2 hB10 hD2 hAB ⊢
    obtain ⟨m0, m1, m2, m3, m4⟩ := fiveO H12.out
    have hT2 := O2.out.tbl HU2.out HTx.out
    obtain ⟨_, _, eT, hC2, hR2⟩ := hT2
    simp only [Value.agg.injEq, Array.mk.injEq, List.cons.injEq, and_true, true_and] at eT
    obtain ⟨rfl, rfl⟩ := eT
    have hul : u2.length = t.rows.length := by rw [← HU2.out, List.length_map]
    rw [hul] at hR2
    have HC2 := Hid.intro hC2
    have HR2 := Hid.intro hR2
    have KI := Hid.intro (KIm.out p2 r2 q2 s2 _ _ HC2.out HR2.out)
    rw [← hul] at KI
    clear hC2 hR2 hul
    go_wp2_with fail
    refine KI.out.mono ?_
    rintro e w5 ⟨p3, q3, r3, s3, d1, d1', rfl, ⟨u3, hu3, hOc, hOr⟩, hb5⟩
    obtain ⟨_, _, e1, _⟩ := row_form hOc
    simp only [Value.slice.injEq] at e1
    have e1' := e1.2.1
    clear e1
    subst e1'
    obtain ⟨_, _, e2, _⟩ := row_form hOr.own
    simp only [Value.slice.injEq] at e2
    have e2' := e2.2.1
    clear e2
    subst e2'
    have HU3 := Hid.intro hu3
    have O3 := Hid.intro (OwnD.of hOc hOr)
    replace HK := Hid.intro (k_trans HK.out hb5)
    replace HA := Hid.intro (box_kept HA.out hb5)
    replace H10 := Hid.intro (box_kept H10.out hb5)
    replace H12 := Hid.intro (box_kept H12.out hb5)
    replace O1 := Hid.intro (O1.out.kept hb5)
    replace O2 := Hid.intro (O2.out.kept hb5)
    clear m0 m1 m2 m3 m4
    have hD3 := hb5.size
    clear hb5 hOc hOr hu3 HC2 HR2 KI
    replace HK := Hid.intro (k_trans HK.out (k_alloc (Below.refl _ _) (.cells #[.slice p3 E.1.cols.length q3, .int .i64 E.1.head, .int .i64 E.1.foot, .slice r3 u3.length s3, .int .i64 E.1.gap] 56)))
    replace HA := Hid.intro (box_kept HA.out (k_alloc (Below.refl _ _) (.cells #[.slice p3 E.1.cols.length q3, .int .i64 E.1.head, .int .i64 E.1.foot, .slice r3 u3.length s3, .int .i64 E.1.gap] 56)))
    replace H10 := Hid.intro (box_kept H10.out (k_alloc (Below.refl _ _) (.cells #[.slice p3 E.1.cols.length q3, .int .i64 E.1.head, .int .i64 E.1.foot, .slice r3 u3.length s3, .int .i64 E.1.gap] 56)))
    replace H12 := Hid.intro (box_kept H12.out (k_alloc (Below.refl _ _) (.cells #[.slice p3 E.1.cols.length q3, .int .i64 E.1.head, .int .i64 E.1.foot, .slice r3 u3.length s3, .int .i64 E.1.gap] 56)))
    replace O1 := Hid.intro (O1.out.kept (k_alloc (Below.refl _ _) (.cells #[.slice p3 E.1.cols.length q3, .int .i64 E.1.head, .int .i64 E.1.foot, .slice r3 u3.length s3, .int .i64 E.1.gap] 56)))
    replace O2 := Hid.intro (O2.out.kept (k_alloc (Below.refl _ _) (.cells #[.slice p3 E.1.cols.length q3, .int .i64 E.1.head, .int .i64 E.1.foot, .slice r3 u3.length s3, .int .i64 E.1.gap] 56)))
    replace O3 := Hid.intro (O3.out.kept (k_alloc (Below.refl _ _) (.cells #[.slice p3 E.1.cols.length q3, .int .i64 E.1.head, .int .i64 E.1.foot, .slice r3 u3.length s3, .int .i64 E.1.gap] 56)))
    have H13 := Hid.intro (newestB w5 (.cells #[.slice p3 E.1.cols.length q3, .int .i64 E.1.head, .int .i64 E.1.foot, .slice r3 u3.length s3, .int .i64 E.1.gap] 56))
    have hB13 : w5.heap.size < (w5.alloc (.cells #[.slice p3 E.1.cols.length q3, .int .i64 E.1.head, .int .i64 E.1.foot, .slice r3 u3.length s3, .int .i64 E.1.gap] 56)).heap.size := by simp
    go_upto_region 8 with fail
    generalize w5.alloc (.cells #[.slice p3 E.1.cols.length q3, .int .i64 E.1.head, .int .i64 E.1.foot, .slice r3 u3.length s3, .int .i64 E.1.gap] 56) = W5 at HK HA O1 O2 O3 H10 H12 H13 hB13 ⊢
    generalize w5.heap.size = b13 at O3 H13 hB13 hD3 ⊢
    generalize W4.heap.size = b3 at O3 hB12 hD3 ⊢
    obtain ⟨m0, m1, m2, m3, m4⟩ := fiveO H13.out
    obtain ⟨n0, n1, n2, n3, n4⟩ := fiveO H10.out
    go_wp2_with fail
    refine (eqTblTable_any _ _ E.1 _ (O3.out.tbl HU3.out HTe.out) (O1.out.tbl HU1.out HTe.out)).mono ?_
    rintro e w6 ⟨rfl, hb6⟩
    replace HK := Hid.intro (k_trans HK.out hb6)
    replace HA := Hid.intro (box_kept HA.out hb6)
    replace H10 := Hid.intro (box_kept H10.out hb6)
    replace H12 := Hid.intro (box_kept H12.out hb6)
    replace H13 := Hid.intro (box_kept H13.out hb6)
    replace O1 := Hid.intro (O1.out.kept hb6)
    replace O2 := Hid.intro (O2.out.kept hb6)
    replace O3 := Hid.intro (O3.out.kept hb6)
    clear m0 m1 m2 m3 m4 n0 n1 n2 n3 n4
    clear hb6
    go_upto_region 10 with fail
    have HKd := Hid.intro (k_drew HK.out)
    have HAd : Hid (w6.drew.heap[w.heap.size]? = some (.cells #[.slice ac t.cols.length cc, .int .i64 t.head, .int .i64 t.foot, .slice ar t.rows.length cr, .int .i64 t.gap] 46)) := HA.out
    have H12d : Hid (w6.drew.heap[b12]? = some (.cells #[.slice p2 t.cols.length q2, .int .i64 t.head, .int .i64 t.foot, .slice r2 u2.length s2, .int .i64 t.gap] 56)) := H12.out
    obtain ⟨m0, m1, m2, m3, m4⟩ := fiveO HA.out
    obtain ⟨n0, n1, n2, n3, n4⟩ := fiveO H12.out
    have hlA : w.heap.size < w6.heap.size := (Array.getElem?_eq_some_iff.1 HA.out).1
    have hl12 : b12 < w6.heap.size := (Array.getElem?_eq_some_iff.1 H12.out).1
    go_region_with (first
      | (go_at_call 23; refine (toTblTable_any _ t hn _ (T0.out _ HKd.out)).mono ?_; rintro e w7 ⟨ac7, cc7, ar7, cr7, rfl, hC7, hR7, hb7⟩; have hb7' := k_trans (k_drew (Below.refl w6.heap.size w6)) hb7; have HC7 := Hid.intro hC7; have HR7 := Hid.intro hR7; have HB7 := Hid.intro hb7'; obtain ⟨i0, i1, i2, i3, i4⟩ := fiveO (box_kept HA.out hb7'); obtain ⟨j0, j1, j2, j3, j4⟩ := fiveO (box_kept H12.out hb7'); clear hb7 hb7' hC7 hR7)
      | (go_at_call 26; refine (eqTblTable_any _ _ t _ ((O2.out.kept HB7.out).tbl HU2.out HTx.out) ⟨_, _, rfl, HC7.out, HR7.out⟩).mono ?_; rintro e w8 ⟨rfl, hb8⟩; have HB8 := Hid.intro (k_trans HB7.out hb8); clear hb8))
    all_goals
      replace HK := Hid.intro (k_trans HK.out HB8.out)
      replace HA := Hid.intro (box_kept HA.out HB8.out)
      replace H10 := Hid.intro (box_kept H10.out HB8.out)
      replace H12 := Hid.intro (box_kept H12.out HB8.out)
      replace H13 := Hid.intro (box_kept H13.out HB8.out)
      replace O1 := Hid.intro (O1.out.kept HB8.out)
      replace O2 := Hid.intro (O2.out.kept HB8.out)
      replace O3 := Hid.intro (O3.out.kept HB8.out)
      clear HB7 HB8 HC7 HR7 i0 i1 i2 i3 i4 j0 j1 j2 j3 j4 HKd HAd H12d
      clear m0 m1 m2 m3 m4 n0 n1 n2 n3 n4
      obtain ⟨m0, m1, m2, m3, m4⟩ := fiveO H12.out
      have hsw : b12 ≤ w8.heap.size := Nat.le_of_lt (Array.getElem?_eq_some_iff.1 H12.out).1
      have hb10l : b10 < b2 := hB10
      have KM := Hid.intro (markTblTable_any p2 r2 q2 s2 (.int .i64 t.head) (.int .i64 t.foot) (.int .i64 t.gap) t.cols u2 (kEnd_tot rfl HU2.out hn) b2 b12 w8 O2.out hsw hD2)
      have hke : ¬ ((kEnd t.cols u2 : Nat) : Int) < 0 := by omega
      generalize kEnd t.cols u2 = k2 at KM hke
      go_wp2_with fail
      refine KM.out.mono ?_
      rintro e w9 ⟨rfl, hM9, hO9⟩
      replace HK := Hid.intro (Out.kept HK.out hO9 (by omega))
      replace HA := Hid.intro (Out.box HA.out hO9 (.inl hAB))
      replace H10 := Hid.intro (Out.box H10.out hO9 (.inl hb10l))
      replace H12 := Hid.intro (Out.box H12.out hO9 (.inr (Nat.le_refl _)))
      replace H13 := Hid.intro (Out.box H13.out hO9 (.inr (by omega)))
      replace O1 := Hid.intro (O1.out.out hO9 (.inl (by omega)))
      replace O3 := Hid.intro (O3.out.out hO9 (.inr (by omega)))
      clear m0 m1 m2 m3 m4
      clear hM9 hO9 KM O2 HU2
      obtain ⟨m0, m1, m2, m3, m4⟩ := fiveO H13.out
      obtain ⟨n0, n1, n2, n3, n4⟩ := fiveO H10.out
      go_wp2_with fail
      refine (eqTblTable_any _ _ E.1 _ (O3.out.tbl HU3.out HTe.out) (O1.out.tbl HU1.out HTe.out)).mono ?_
      rintro e w10 ⟨rfl, hb10⟩
      replace HK := Hid.intro (k_trans HK.out hb10)
      replace HA := Hid.intro (box_kept HA.out hb10)
      replace H10 := Hid.intro (box_kept H10.out hb10)
      replace H13 := Hid.intro (box_kept H13.out hb10)
      replace O1 := Hid.intro (O1.out.kept hb10)
      replace O3 := Hid.intro (O3.out.kept hb10)
      clear m0 m1 m2 m3 m4 n0 n1 n2 n3 n4
      clear hb10 H12
      obtain ⟨m0, m1, m2, m3, m4⟩ := fiveO H13.out
      have hsw3 : b13 ≤ w10.heap.size := Nat.le_of_lt (Array.getElem?_eq_some_iff.1 H13.out).1
      have KM := Hid.intro (markTblTable_any p3 r3 q3 s3 (.int .i64 E.1.head) (.int .i64 E.1.foot) (.int .i64 E.1.gap) E.1.cols u3 (kEnd_sm rfl HU3.out HSm.out) b3 b13 w10 O3.out hsw3 hD3)
      have KH := Hid.intro (fun W h => heldTblTable_any p3 r3 q3 s3 (.int .i64 E.1.head) (.int .i64 E.1.foot) (.int .i64 E.1.gap) E.1.cols u3 (kEnd_sm rfl HU3.out HSm.out) b3 b13 W h)
      have hke3 : ¬ ((kEnd E.1.cols u3 : Nat) : Int) < 0 := by omega
      have hkk : (((kEnd E.1.cols u3 : Nat) : Int) != ((kEnd E.1.cols u3 : Nat) : Int)) = false := by simp
      generalize kEnd E.1.cols u3 = k3 at KM KH hke3 hkk
      go_wp2_with fail
      refine KM.out.mono ?_
      rintro e w11 ⟨rfl, hM11, hO11⟩
      have HM := Hid.intro hM11
      replace HK := Hid.intro (Out.kept HK.out hO11 (by omega))
      replace HA := Hid.intro (Out.box HA.out hO11 (.inl (by omega)))
      replace H10 := Hid.intro (Out.box H10.out hO11 (.inl (by omega)))
      replace H13 := Hid.intro (Out.box H13.out hO11 (.inr (Nat.le_refl _)))
      replace O1 := Hid.intro (O1.out.out hO11 (.inl (by omega)))
      clear m0 m1 m2 m3 m4
      clear hM11 hO11 KM O3
      obtain ⟨m0, m1, m2, m3, m4⟩ := fiveO H13.out
      have KH1 := Hid.intro (KH.out _ HM.out)
      go_wp2_with fail
      refine KH1.out.mono ?_
      rintro e w12 ⟨rfl, hb12⟩
      replace HK := Hid.intro (k_trans HK.out hb12)
      replace HA := Hid.intro (box_kept HA.out hb12)
      replace H10 := Hid.intro (box_kept H10.out hb12)
      replace H13 := Hid.intro (box_kept H13.out hb12)
      replace O1 := Hid.intro (O1.out.kept hb12)
      replace HM := Hid.intro (HM.out.kept hb12)
      clear m0 m1 m2 m3 m4
      clear hb12 KH1
      obtain ⟨m0, m1, m2, m3, m4⟩ := fiveO HA.out
      go_wp2_with fail
      refine (toTblTable_any _ t hn _ (T0.out _ HK.out)).mono ?_
      rintro e w13 ⟨ac2, cc2, ar2, cr2, rfl, hC2, hR2, hb13⟩
      have HC2 := Hid.intro hC2
      have HR2 := Hid.intro hR2
      replace HK := Hid.intro (k_trans HK.out hb13)
      replace HA := Hid.intro (box_kept HA.out hb13)
      replace H10 := Hid.intro (box_kept H10.out hb13)
      replace H13 := Hid.intro (box_kept H13.out hb13)
      replace O1 := Hid.intro (O1.out.kept hb13)
      replace HM := Hid.intro (HM.out.kept hb13)
      clear m0 m1 m2 m3 m4
      clear hb13 hC2 hR2
      go_wp2_with fail
      refine (KIm.out ac2 ar2 cc2 cr2 _ _ HC2.out HR2.out).mono ?_
      rintro e w14 ⟨p4, q4, r4, s4, d1, d1', rfl, ⟨u4, hu4, hOc, hOr⟩, hb14⟩
      obtain ⟨_, _, e1, _⟩ := row_form hOc
      simp only [Value.slice.injEq] at e1
      have e1' := e1.2.1
      clear e1
      subst e1'
      obtain ⟨_, _, e2, _⟩ := row_form hOr.own
      simp only [Value.slice.injEq] at e2
      have e2' := e2.2.1
      clear e2
      subst e2'
      have HU4 := Hid.intro hu4
      have O4 := Hid.intro (OwnD.of hOc hOr)
      replace HK := Hid.intro (k_trans HK.out hb14)
      replace HA := Hid.intro (box_kept HA.out hb14)
      replace H10 := Hid.intro (box_kept H10.out hb14)
      replace H13 := Hid.intro (box_kept H13.out hb14)
      replace O1 := Hid.intro (O1.out.kept hb14)
      replace HM := Hid.intro (HM.out.kept hb14)
      clear hb14 hOc hOr hu4 HC2 HR2
      replace HK := Hid.intro (k_trans HK.out (k_alloc (Below.refl _ _) (.cells #[.slice p4 E.1.cols.length q4, .int .i64 E.1.head, .int .i64 E.1.foot, .slice r4 u4.length s4, .int .i64 E.1.gap] 56)))
      replace HA := Hid.intro (box_kept HA.out (k_alloc (Below.refl _ _) (.cells #[.slice p4 E.1.cols.length q4, .int .i64 E.1.head, .int .i64 E.1.foot, .slice r4 u4.length s4, .int .i64 E.1.gap] 56)))
      replace H10 := Hid.intro (box_kept H10.out (k_alloc (Below.refl _ _) (.cells #[.slice p4 E.1.cols.length q4, .int .i64 E.1.head, .int .i64 E.1.foot, .slice r4 u4.length s4, .int .i64 E.1.gap] 56)))
      replace H13 := Hid.intro (box_kept H13.out (k_alloc (Below.refl _ _) (.cells #[.slice p4 E.1.cols.length q4, .int .i64 E.1.head, .int .i64 E.1.foot, .slice r4 u4.length s4, .int .i64 E.1.gap] 56)))
      replace O1 := Hid.intro (O1.out.kept (k_alloc (Below.refl _ _) (.cells #[.slice p4 E.1.cols.length q4, .int .i64 E.1.head, .int .i64 E.1.foot, .slice r4 u4.length s4, .int .i64 E.1.gap] 56)))
      replace HM := Hid.intro (HM.out.kept (k_alloc (Below.refl _ _) (.cells #[.slice p4 E.1.cols.length q4, .int .i64 E.1.head, .int .i64 E.1.foot, .slice r4 u4.length s4, .int .i64 E.1.gap] 56)))
      replace O4 := Hid.intro (O4.out.kept (k_alloc (Below.refl _ _) (.cells #[.slice p4 E.1.cols.length q4, .int .i64 E.1.head, .int .i64 E.1.foot, .slice r4 u4.length s4, .int .i64 E.1.gap] 56)))
      have H18 := Hid.intro (newestB w14 (.cells #[.slice p4 E.1.cols.length q4, .int .i64 E.1.head, .int .i64 E.1.foot, .slice r4 u4.length s4, .int .i64 E.1.gap] 56))
      go_upto_region 25 with fail
      generalize w14.alloc (.cells #[.slice p4 E.1.cols.length q4, .int .i64 E.1.head, .int .i64 E.1.foot, .slice r4 u4.length s4, .int .i64 E.1.gap] 56) = W14 at HK HA O1 HM O4 H10 H13 H18 ⊢
      generalize w14.heap.size = b18 at O4 H18 ⊢
      obtain ⟨m0, m1, m2, m3, m4⟩ := fiveO H18.out
      obtain ⟨n0, n1, n2, n3, n4⟩ := fiveO H10.out
      go_wp2_with fail
      refine (eqTblTable_any _ _ E.1 _ (O4.out.tbl HU4.out HTe.out) (O1.out.tbl HU1.out HTe.out)).mono ?_
      rintro e w15 ⟨rfl, hb15⟩
      replace HK := Hid.intro (k_trans HK.out hb15)
      replace HA := Hid.intro (box_kept HA.out hb15)
      replace H10 := Hid.intro (box_kept H10.out hb15)
      replace H13 := Hid.intro (box_kept H13.out hb15)
      replace H18 := Hid.intro (box_kept H18.out hb15)
      replace O1 := Hid.intro (O1.out.kept hb15)
      replace HM := Hid.intro (HM.out.kept hb15)
      replace O4 := Hid.intro (O4.out.kept hb15)
      clear m0 m1 m2 m3 m4 n0 n1 n2 n3 n4
      clear hb15
      obtain ⟨m0, m1, m2, m3, m4⟩ := fiveO H13.out
      have KH1 := Hid.intro (KH.out _ HM.out)
      go_wp2_with fail
      refine KH1.out.mono ?_
      rintro e w16 ⟨rfl, hb16⟩
      replace HK := Hid.intro (k_trans HK.out hb16)
      clear m0 m1 m2 m3 m4
      clear hb16 KH1
      go_wp2
      go_ret
      exact ⟨rfl, HK.out⟩
  · have HL := Hid.intro (leftOf_neg (n := 1048576) (m := totT t) (by omega))
    go_enter Try.func7, Try.ntmps7
    go_upto_region 1 with fail
    generalize w.alloc (.cells #[.slice ac t.cols.length cc, .int .i64 t.head, .int .i64 t.foot, .slice ar t.rows.length cr, .int .i64 t.gap] 46) = W0 at HK HA ⊢
    obtain ⟨m0, m1, m2, m3, m4⟩ := fiveO HA.out
    go_wp2_with fail
    refine (szTblTable_any _ t _ (T0.out _ HK.out)).mono ?_
    rw [HL.out]
    rintro e w1 ⟨rfl, hb1⟩
    replace HK := Hid.intro (k_trans HK.out hb1)
    clear hb1 m0 m1 m2 m3 m4
    go_wp2
    go_ret
    exact ⟨rfl, HK.out⟩
theorem arr_of {cs : Array Value} {l : List Value} (h : cs.toList = l) : cs = l.toArray := by cases cs; simpa using h

set_option linter.unusedVariables false in
set_option maxRecDepth 100000 in
theorem lifted (os : Os) (started : os.Started) (H : Type) (enc : TypeId × Value → H) :
    ReturnsInHanded {} Try.checked os 7 .any (Rows.fnExactEdtRowSpec.pre6 enc Try.prog Try.f7 Rows.fnExactEdtRowRow.domain false) (Rows.fnExactEdtRowSpec.post enc Try.prog Try.f7 false true false false) := by
  refine returnsInHanded_of_change (C := Try.checked) own started (by kernel_rfl) Try.func7
    (ChangeSpec.witness6 (enc := enc) (C := Try.checked) false ⟨#[], #[.agg #[.slice none 0 0, .int .i64 0, .int .i64 0, .slice none 0 0, .int .i64 0], .int .i64 0], []⟩ 8 (by kernel_rfl) (by kernel_rfl) (by kernel_rfl) (by kernel_rfl)) ?_
  intro W base args ds gs before hval0 hW hcnd _
  have hval : ∀ (j : Nat) t v, Try.f7.params[j]? = some t → args[j]? = some v → Value.okWide Try.prog W .any base t v := hval0
  have hW' := hW
  obtain ⟨p, q, hA0, hV, rfl, hfz, hnd⟩ := hW
  have hA : DataW.TrodAll enc Try.prog W 0 (fun _ => true) true Try.f7.params.toList args.toList ds p := hA0
  rw [Try.params7] at hA hval
  obtain ⟨v0, vs0, d0, ds0, p0, q0, hargs, rfl, rfl, h0, r0⟩ := trodAll_cons hA
  obtain ⟨v1, vs1, d1, ds1, p1, q1, rfl, rfl, rfl, h1, r1⟩ := trodAll_cons r0
  obtain ⟨rfl, rfl, rfl⟩ := trodAll_nil r1
  obtain rfl : args = #[v0, v1] := by cases args; simp_all
  obtain ⟨rfl, rfl⟩ := trodVars_none hV
  have k0 := h0
  have lt0 : ∀ x ∈ p0, x.block < W.heap.size := by obtain ⟨m, hm⟩ := k0; exact DataW.trod_lt m _ _ _ hm
  have k1 := h1
  have lt1 : ∀ x ∈ p1, x.block < W.heap.size := by obtain ⟨m, hm⟩ := k1; exact DataW.trod_lt m _ _ _ hm
  obtain ⟨cs0, rfl, hsz0⟩ := okWide_struct Try.underlying46 (hval 0 46 v0 rfl rfl)
  obtain ⟨fuel0, hf0⟩ := h0
  obtain ⟨t, ht⟩ := openTblL (by simpa [Value.cells] using hf0)
  obtain ⟨q1, rfl, rfl, rfl, wq1⟩ := open_int Try.underlying3 (hval 1 3 v1 rfl rfl) h1
  clear hA0 hval0
  refine (walk _ t q1 W (by simpa using ht)).mono fun e W' ⟨he, bel⟩ => ?_
  subst he
  exact ⟨_, rfl, _, _, _, [], _, [], hW', trodAll_mk1 (shut_bool Try.underlying4 _), (trodAll_cons_mk (Below.trod laidOut (by kernel_rfl) (of_decide_eq_true (by kernel_rfl)) k0 bel lt0) (trodAll_cons_mk (Below.trod laidOut (by kernel_rfl) (of_decide_eq_true (by kernel_rfl)) k1 bel lt1) trodAll_mk0)), rfl, bel.frame _, fun h => by cases h⟩

theorem proved : Rows.FnExactEdtRowSaid :=
  OpenClaim.holds_of_wide 7 Try.f7 rfl rfl rfl rfl rfl rfl rfl ⟨rfl, rfl, rfl, rfl, rfl⟩ rfl rfl rfl rfl rfl (by kernel_rfl) Try.func7 (by kernel_rfl)
    (of_decide_eq_true (by kernel_rfl)) (by unfold Func.isWrapper; first | (rw [if_pos (by decide +kernel)]; kernel_rfl) | (rw [if_neg (by decide +kernel)]; exact ⟨rfl, rfl⟩))
    (fun os started H enc _ => lifted os started H enc)
#print axioms proved
end Go.Proofs.Ytggmjiddadjilao.fnExactEdtRow
