/-
  PROVED HERE: the law FnEdtRow returns true at every code that lies in memory.
-/
import Derived.Test.YtggmjiddadjilakB8
import Derived.Test.YtggmjiddadjilakB11
import Derived.Test.YtggmjiddadjilakB13
import Derived.Test.YtggmjiddadjilakB14
import Derived.Test.YtggmjiddadjilakB23
import Derived.Test.YtggmjiddadjilakB5
import Derived.Test.YtggmjiddadjilakB12
import Derived.Test.YtggmjiddadjilakB4
namespace Go.Proofs.Ytggmjiddadjilak
open Go.RowKit Go.BigFrame

set_option maxRecDepth 100000 in
set_option maxHeartbeats 8000000 in
theorem lawER_walk (A : Option Addr) (len cap : Nat) (hlen : len ≤ 1048576) (w : World) (h : IsCode w A len cap) :
    Calls Try.prog 3 #[.slice A len cap] w fun e w' => e = .returned (.bool true) ∧ Below w.heap.size w w' := by
  have hl : ¬ (1048576 : Int) < (len : Int) := by omega
  have hmx : Try.prog.follows .mixedOrders = true := by kernel_rfl
  have HD := Hid.intro h
  clear h
  go_enter Try.func3, Try.ntmps3
  go_wp2_with fail
  refine (drawEdtRow_any _ _ _ _ HD.out).mono ?_
  rintro e w1 ⟨ac, ar, cc, cr, t, at', rfl, _, hq, hC1, hR1, hb1⟩
  have HK := Hid.intro (k_alloc hb1 (.cells #[.slice ac t.cols.length cc, .int .i64 t.head, .int .i64 t.foot, .slice ar t.rows.length cr, .int .i64 t.gap] 26))
  have HT := Hid.intro (newestB w1 (.cells #[.slice ac t.cols.length cc, .int .i64 t.head, .int .i64 t.foot, .slice ar t.rows.length cr, .int .i64 t.gap] 26))
  have C0 := Hid.intro (hC1.kept (k_alloc (Below.refl _ _) (.cells #[.slice ac t.cols.length cc, .int .i64 t.head, .int .i64 t.foot, .slice ar t.rows.length cr, .int .i64 t.gap] 26)))
  have R0 := Hid.intro (hR1.kept (k_alloc (Below.refl _ _) (.cells #[.slice ac t.cols.length cc, .int .i64 t.head, .int .i64 t.foot, .slice ar t.rows.length cr, .int .i64 t.gap] 26)))
  have HTx := Hid.intro (txM_at hR1)
  clear hC1 hR1 hb1 HD
  have HTe : Hid (TxM (edRow t at').1) := txM_row HTx.out
  have KSp := Hid.intro (fun (a b : Option Addr) (c d : Nat) (W : World) (z : Nat) (h1 : ColsAt W z (.slice a t.cols.length c) t.cols) (h2 : RowsAt W z (.slice b t.rows.length d) t.rows) => specEdtRow a b c d t at' W h1 h2)
  have KIm := Hid.intro (fun (a b : Option Addr) (c d : Nat) (W : World) (z : Nat) (h1 : ColsAt W z (.slice a t.cols.length c) t.cols) (h2 : RowsAt W z (.slice b t.rows.length d) t.rows) => implEdtRow a b c d t at' W h1 h2)
  obtain ⟨E, hE⟩ : ∃ E, edRow t at' = E := ⟨_, rfl⟩
  rw [hE] at HTe KSp KIm
  have HEq := Hid.intro hE
  clear hE
  have hbb : (E.2 != E.2) = false := by simp
  go_upto_region 4 with fail
  generalize w1.alloc (.cells #[.slice ac t.cols.length cc, .int .i64 t.head, .int .i64 t.foot, .slice ar t.rows.length cr, .int .i64 t.gap] 26) = W1 at HK HT C0 R0 ⊢
  generalize w1.heap.size = tb at HT ⊢
  obtain ⟨m0, m1, m2, m3, m4⟩ := fiveO HT.out
  go_wp2_with fail
  refine (KIm.out _ _ _ _ _ _ C0.out R0.out).mono ?_
  rintro e w2 ⟨p1, q1, r1, s1, d1, d2, rfl, hO, hb⟩
  have hXC := hO.cols
  have hXR := hO.rows HTe.out
  obtain ⟨_, _, e1, _⟩ := At.form hXC
  simp only [Value.slice.injEq] at e1
  have e1' := e1.2.1
  clear e1
  subst e1'
  obtain ⟨_, _, e2, _⟩ := At.form hXR
  simp only [Value.slice.injEq] at e2
  have e2' := e2.2.1
  clear e2
  subst e2'
  have C1 := Hid.intro hXC
  have R1 := Hid.intro hXR
  replace HK := Hid.intro (k_trans HK.out hb)
  replace HT := Hid.intro (box_kept HT.out hb)
  replace C0 := Hid.intro (C0.out.kept hb)
  replace R0 := Hid.intro (R0.out.kept hb)
  clear m0 m1 m2 m3 m4
  clear hb hO hXC hXR
  replace HK := Hid.intro (k_trans HK.out (k_alloc (Below.refl _ _) (.cells #[.slice p1 E.1.cols.length q1, .int .i64 E.1.head, .int .i64 E.1.foot, .slice r1 E.1.rows.length s1, .int .i64 E.1.gap] 26)))
  replace HT := Hid.intro (box_kept HT.out (k_alloc (Below.refl _ _) (.cells #[.slice p1 E.1.cols.length q1, .int .i64 E.1.head, .int .i64 E.1.foot, .slice r1 E.1.rows.length s1, .int .i64 E.1.gap] 26)))
  replace C0 := Hid.intro (C0.out.kept (k_alloc (Below.refl _ _) (.cells #[.slice p1 E.1.cols.length q1, .int .i64 E.1.head, .int .i64 E.1.foot, .slice r1 E.1.rows.length s1, .int .i64 E.1.gap] 26)))
  replace R0 := Hid.intro (R0.out.kept (k_alloc (Below.refl _ _) (.cells #[.slice p1 E.1.cols.length q1, .int .i64 E.1.head, .int .i64 E.1.foot, .slice r1 E.1.rows.length s1, .int .i64 E.1.gap] 26)))
  replace C1 := Hid.intro (C1.out.kept (k_alloc (Below.refl _ _) (.cells #[.slice p1 E.1.cols.length q1, .int .i64 E.1.head, .int .i64 E.1.foot, .slice r1 E.1.rows.length s1, .int .i64 E.1.gap] 26)))
  replace R1 := Hid.intro (R1.out.kept (k_alloc (Below.refl _ _) (.cells #[.slice p1 E.1.cols.length q1, .int .i64 E.1.head, .int .i64 E.1.foot, .slice r1 E.1.rows.length s1, .int .i64 E.1.gap] 26)))
  have H1 := Hid.intro (newestB w2 (.cells #[.slice p1 E.1.cols.length q1, .int .i64 E.1.head, .int .i64 E.1.foot, .slice r1 E.1.rows.length s1, .int .i64 E.1.gap] 26))
  go_upto_region 5 with fail
  generalize w2.alloc (.cells #[.slice p1 E.1.cols.length q1, .int .i64 E.1.head, .int .i64 E.1.foot, .slice r1 E.1.rows.length s1, .int .i64 E.1.gap] 26) = W2 at HK HT H1 C0 R0 C1 R1 ⊢
  generalize w2.heap.size = b1x at H1 ⊢
  obtain ⟨m0, m1, m2, m3, m4⟩ := fiveO HT.out
  go_wp2_with fail
  refine (KSp.out _ _ _ _ _ _ C0.out R0.out).mono ?_
  rintro e w3 ⟨p2, q2, r2, s2, d1, d2, rfl, hO, hb⟩
  have hXC := hO.cols
  have hXR := hO.rows HTe.out
  obtain ⟨_, _, e1, _⟩ := At.form hXC
  simp only [Value.slice.injEq] at e1
  have e1' := e1.2.1
  clear e1
  subst e1'
  obtain ⟨_, _, e2, _⟩ := At.form hXR
  simp only [Value.slice.injEq] at e2
  have e2' := e2.2.1
  clear e2
  subst e2'
  have C2 := Hid.intro hXC
  have R2 := Hid.intro hXR
  replace HK := Hid.intro (k_trans HK.out hb)
  replace HT := Hid.intro (box_kept HT.out hb)
  replace H1 := Hid.intro (box_kept H1.out hb)
  replace C0 := Hid.intro (C0.out.kept hb)
  replace R0 := Hid.intro (R0.out.kept hb)
  replace C1 := Hid.intro (C1.out.kept hb)
  replace R1 := Hid.intro (R1.out.kept hb)
  clear m0 m1 m2 m3 m4
  clear hb hO hXC hXR
  replace HK := Hid.intro (k_trans HK.out (k_alloc (Below.refl _ _) (.cells #[.slice p2 E.1.cols.length q2, .int .i64 E.1.head, .int .i64 E.1.foot, .slice r2 E.1.rows.length s2, .int .i64 E.1.gap] 26)))
  replace HT := Hid.intro (box_kept HT.out (k_alloc (Below.refl _ _) (.cells #[.slice p2 E.1.cols.length q2, .int .i64 E.1.head, .int .i64 E.1.foot, .slice r2 E.1.rows.length s2, .int .i64 E.1.gap] 26)))
  replace H1 := Hid.intro (box_kept H1.out (k_alloc (Below.refl _ _) (.cells #[.slice p2 E.1.cols.length q2, .int .i64 E.1.head, .int .i64 E.1.foot, .slice r2 E.1.rows.length s2, .int .i64 E.1.gap] 26)))
  replace C0 := Hid.intro (C0.out.kept (k_alloc (Below.refl _ _) (.cells #[.slice p2 E.1.cols.length q2, .int .i64 E.1.head, .int .i64 E.1.foot, .slice r2 E.1.rows.length s2, .int .i64 E.1.gap] 26)))
  replace R0 := Hid.intro (R0.out.kept (k_alloc (Below.refl _ _) (.cells #[.slice p2 E.1.cols.length q2, .int .i64 E.1.head, .int .i64 E.1.foot, .slice r2 E.1.rows.length s2, .int .i64 E.1.gap] 26)))
  replace C1 := Hid.intro (C1.out.kept (k_alloc (Below.refl _ _) (.cells #[.slice p2 E.1.cols.length q2, .int .i64 E.1.head, .int .i64 E.1.foot, .slice r2 E.1.rows.length s2, .int .i64 E.1.gap] 26)))
  replace R1 := Hid.intro (R1.out.kept (k_alloc (Below.refl _ _) (.cells #[.slice p2 E.1.cols.length q2, .int .i64 E.1.head, .int .i64 E.1.foot, .slice r2 E.1.rows.length s2, .int .i64 E.1.gap] 26)))
  replace C2 := Hid.intro (C2.out.kept (k_alloc (Below.refl _ _) (.cells #[.slice p2 E.1.cols.length q2, .int .i64 E.1.head, .int .i64 E.1.foot, .slice r2 E.1.rows.length s2, .int .i64 E.1.gap] 26)))
  replace R2 := Hid.intro (R2.out.kept (k_alloc (Below.refl _ _) (.cells #[.slice p2 E.1.cols.length q2, .int .i64 E.1.head, .int .i64 E.1.foot, .slice r2 E.1.rows.length s2, .int .i64 E.1.gap] 26)))
  have H2 := Hid.intro (newestB w3 (.cells #[.slice p2 E.1.cols.length q2, .int .i64 E.1.head, .int .i64 E.1.foot, .slice r2 E.1.rows.length s2, .int .i64 E.1.gap] 26))
  go_upto_region 6 with fail
  generalize w3.alloc (.cells #[.slice p2 E.1.cols.length q2, .int .i64 E.1.head, .int .i64 E.1.foot, .slice r2 E.1.rows.length s2, .int .i64 E.1.gap] 26) = W3 at HK HT H1 H2 C0 R0 C1 R1 C2 R2 ⊢
  generalize w3.heap.size = b2 at H2 ⊢
  obtain ⟨m0, m1, m2, m3, m4⟩ := fiveO H1.out
  obtain ⟨n0, n1, n2, n3, n4⟩ := fiveO H2.out
  go_wp2_with fail
  refine (pwTable_same _ _ E.1 _ ⟨_, _, rfl, C1.out, R1.out⟩ ⟨_, _, rfl, C2.out, R2.out⟩).mono ?_
  rintro e w4 ⟨rfl, hb⟩
  replace HK := Hid.intro (k_trans HK.out hb)
  replace HT := Hid.intro (box_kept HT.out hb)
  replace H1 := Hid.intro (box_kept H1.out hb)
  replace C0 := Hid.intro (C0.out.kept hb)
  replace R0 := Hid.intro (R0.out.kept hb)
  replace C1 := Hid.intro (C1.out.kept hb)
  replace R1 := Hid.intro (R1.out.kept hb)
  clear m0 m1 m2 m3 m4 n0 n1 n2 n3 n4
  clear hb H2 C2 R2 KSp KIm
  obtain ⟨m0, m1, m2, m3, m4⟩ := fiveO HT.out
  have KT := Hid.intro (specTblOk ac ar cc cr t w4 C0.out R0.out)
  cases htk : tblB t with
  | false =>
    rw [htk] at KT
    obtain rfl : E = (zT, false) := by rw [← HEq.out, edRow, if_neg (by rw [htk]; simp)]
    clear htk HEq
    go_wp2_with fail
    refine KT.out.mono ?_
    rintro e w5 ⟨rfl, hb⟩
    replace HK := Hid.intro (k_trans HK.out hb)
    replace HT := Hid.intro (box_kept HT.out hb)
    replace H1 := Hid.intro (box_kept H1.out hb)
    replace C0 := Hid.intro (C0.out.kept hb)
    replace R0 := Hid.intro (R0.out.kept hb)
    replace C1 := Hid.intro (C1.out.kept hb)
    replace R1 := Hid.intro (R1.out.kept hb)
    clear m0 m1 m2 m3 m4
    clear hb KT
    obtain ⟨m0, m1, m2, m3, m4⟩ := fiveO H1.out
    go_wp2_with fail
    refine (pwTable_same _ _ zT _ ⟨_, _, rfl, C1.out, R1.out⟩ (z2 := 0) ⟨_, _, rfl, ⟨none, 0, rfl, Nat.le_refl _, Nat.zero_le _, fun i hi => absurd hi (by simp [zT])⟩, ⟨none, 0, rfl, Nat.le_refl _, Nat.zero_le _, fun i hi => absurd hi (by simp [zT])⟩⟩).mono ?_
    rintro e w6 ⟨rfl, hb⟩
    replace HK := Hid.intro (k_trans HK.out hb)
    clear m0 m1 m2 m3 m4
    clear hb
    go_wp2_with fail
    refine (pwOk_any _).mono ?_
    rintro e w7 ⟨rfl, e7⟩
    subst e7
    go_wp2
    go_ret
    exact ⟨rfl, HK.out⟩
  | true =>
    rw [htk] at KT
    have HTk := Hid.intro htk
    clear htk
    go_wp2_with fail
    refine KT.out.mono ?_
    rintro e w5 ⟨rfl, hb⟩
    replace HK := Hid.intro (k_trans HK.out hb)
    replace HT := Hid.intro (box_kept HT.out hb)
    replace H1 := Hid.intro (box_kept H1.out hb)
    replace C0 := Hid.intro (C0.out.kept hb)
    replace R0 := Hid.intro (R0.out.kept hb)
    replace C1 := Hid.intro (C1.out.kept hb)
    replace R1 := Hid.intro (R1.out.kept hb)
    clear m0 m1 m2 m3 m4
    clear hb KT
    cases hpl : plcB t at' with
    | false =>
      obtain rfl : E = (t, false) := by rw [← HEq.out, edRow, if_pos HTk.out, if_neg (by rw [hpl]; simp)]
      clear hpl HEq
      obtain ⟨m0, m1, m2, m3, m4⟩ := fiveO H1.out
      obtain ⟨n0, n1, n2, n3, n4⟩ := fiveO HT.out
      go_wp2_with fail
      refine (pwTable_same _ _ t _ ⟨_, _, rfl, C1.out, R1.out⟩ ⟨_, _, rfl, C0.out, R0.out⟩).mono ?_
      rintro e w6 ⟨rfl, hb⟩
      replace HK := Hid.intro (k_trans HK.out hb)
      clear hb
      go_wp2
      go_ret
      exact ⟨rfl, HK.out⟩
    | true =>
      obtain rfl : E = (insT t at'.toNat, true) := by rw [← HEq.out, edRow, if_pos HTk.out, if_pos hpl]
      have HOk := Hid.intro (insT_ok HTk.out hpl)
      have HPa := Hid.intro (insT_part HTk.out hpl)
      have HTo := Hid.intro (tot_ok HTk.out)
      have HTo2 := Hid.intro (tot_ok HOk.out)
      obtain ⟨i, rfl, hi1, hi2, hi3, hi4⟩ := plcB_iff hpl HTk.out
      clear hpl HEq hbb hi1 hi2 HTe HTx
      rw [Int.toNat_natCast] at *
      have HCn := Hid.intro (insT_cells t i)
      have HNw := Hid.intro (insT_new t hi4)
      have HOl := Hid.intro (fun r => insT_old t hi4 (r := r))
      have HXl := Hid.intro (insT_len t i)
      generalize insT t i = X at *
      have hXl := HXl.out
      rw [hXl] at R1 H1
      dsimp only at R1 H1 C1 ⊢
      generalize Value.agg #[.slice ac t.cols.length cc, .int .i64 t.head, .int .i64 t.foot, .slice ar t.rows.length cr, .int .i64 t.gap] = va
      generalize Value.agg #[.slice p1 X.cols.length q1, .int .i64 X.head, .int .i64 X.foot, .slice r1 X.rows.length s1, .int .i64 X.gap] = vx
      generalize Value.agg #[.slice p2 X.cols.length q2, .int .i64 X.head, .int .i64 X.foot, .slice r2 X.rows.length s2, .int .i64 X.gap] = vw
      go_wp2_with fail
      go_loopw [9] (fun v W => ∃ k : Nat, k ≤ t.rows.length ∧ v = .int .i64 k ∧ Hid (Below w5.heap.size w5 W)) (fun v _ => t.rows.length - (intOf v).toNat)
      case atStart => exact ⟨0, Nat.zero_le _, rfl, Below.refl _ _⟩
      case round =>
        rename World => wr
        obtain ⟨k, hk, rfl, HB⟩ := hrel
        have HTr := (HB.out.block _ (Array.getElem?_eq_some_iff.1 HT.out).1).trans HT.out
        have H1r := (HB.out.block _ (Array.getElem?_eq_some_iff.1 H1.out).1).trans H1.out
        have l1 := (Array.getElem?_eq_some_iff.1 HTr).1
        have l2 := (Array.getElem?_eq_some_iff.1 H1r).1
        have hne := bw_some wr
        by_cases hlt : k < t.rows.length
        · obtain ⟨kk, hkk, hkl⟩ : ∃ kk, kk = (if i ≤ k then k + 1 else k) ∧ kk < X.rows.length := ⟨_, rfl, by rw [hXl]; split <;> omega⟩
          have HOk1 := HOl.out k
          rw [← hkk] at HOk1
          obtain ⟨b1, off1, cap1', e1, hc11, hc12, hbl1, u1, x0, x1, x2⟩ := At.get (R1.out.kept HB.out) hkl
          obtain ⟨b2, off2, cap2', e2, hc21, hc22, hbl2, u2, z0, z1, z2⟩ := At.get (R0.out.kept HB.out) hlt
          simp only [Value.slice.injEq, true_and] at e1 e2
          obtain ⟨rfl, rfl⟩ := e2
          obtain ⟨rfl, hdd, rfl⟩ := e1
          clear hdd
          rw [HOk1] at x1 x2
          unfold maxLen at hc12 hc22
          generalize t.rows.getD k dR = x at x1 x2 z1 z2
          obtain ⟨c1, d1, rfl, _⟩ := At.form x2
          obtain ⟨c2, d2, rfl, _⟩ := At.form z2
          have X2 := Hid.intro x2
          have Z2 := Hid.intro z2
          clear x2 z2 HOk1
          have KR := Hid.intro (fun (p : BW wr) => bw_of (pwRow_same (.slice c1 x.cells.length d1) (.slice c2 x.cells.length d2) x.cells x.whole p.u (X2.out.kept p.h) (Z2.out.kept p.h)))
          rw [hXl] at hkl hc11
          obtain ⟨p0, p1', p2, p3, p4⟩ := fiveO HTr
          by_cases hge : i ≤ k
          · rw [if_pos hge] at hkk
            subst hkk
            have hge' : (i : Int) ≤ (k : Int) := by omega
            have hw1 : IntKind.i64.wrap ((k : Int) + 1) = (k : Int) + 1 := by rw [IntKind.wrap_i64]; omega
            have hv1 : (0 : Int) ≤ (k : Int) + 1 := by omega
            have htn : ((k : Int) + 1).toNat = k + 1 := by omega
            have hv5 : (k : Int) + 1 < (t.rows.length : Int) + 1 := by omega
            have hv6 : k + 1 < t.rows.length + 1 := by omega
            go_upto_region 18 with fail
            clear p0 p1' p2 p3 p4
            obtain ⟨t0, t1, t2, t3, t4⟩ := fiveO HTr
            obtain ⟨y0, y1, y2, y3, y4⟩ := fiveO H1r
            have m3 := bw_cell (a := ⟨tb, 3, none⟩) l1 t3
            have n3 := bw_cell (a := ⟨b1x, 3, none⟩) l2 y3
            have m5 := bw_cell hbl1 x0
            have m6 := bw_cell hbl1 x1
            have n5 := bw_cell hbl2 z0
            have n6 := bw_cell hbl2 z1
            clear x0 x1 z0 z1 t0 t1 t2 t3 t4 y0 y1 y2 y3 y4 HTr H1r hXl
            refine wp_region_quiet_below hmx (by kernel_rfl) ?_
            repeat (go_big_quiet_step (first | (go_at_call 10; refine KR.out _)))
            refine wpQuiet_nil ?_
            intro W9 hw'
            obtain ⟨⟨Wx, hW9⟩, hw''⟩ := hw'
            subst hw''
            have HB9 := Hid.intro (k_trans HB.out hW9)
            clear m3 n3 m5 m6 n5 n6 hne KR hW9
            go_wp2
            go_roundw
            case rel => exact ⟨k + 1, by omega, by go_num, HB9⟩
            case measure => simp [intOf]; omega
          · rw [if_neg hge] at hkk
            have hkk2 := hkk.symm
            clear hkk
            subst hkk2
            have hge' : ¬ (i : Int) ≤ (k : Int) := by omega
            go_upto_region 18 with fail
            clear p0 p1' p2 p3 p4
            obtain ⟨t0, t1, t2, t3, t4⟩ := fiveO HTr
            obtain ⟨y0, y1, y2, y3, y4⟩ := fiveO H1r
            have m3 := bw_cell (a := ⟨tb, 3, none⟩) l1 t3
            have n3 := bw_cell (a := ⟨b1x, 3, none⟩) l2 y3
            have m5 := bw_cell hbl1 x0
            have m6 := bw_cell hbl1 x1
            have n5 := bw_cell hbl2 z0
            have n6 := bw_cell hbl2 z1
            clear x0 x1 z0 z1 t0 t1 t2 t3 t4 y0 y1 y2 y3 y4 HTr H1r hXl
            refine wp_region_quiet_below hmx (by kernel_rfl) ?_
            repeat (go_big_quiet_step (first | (go_at_call 10; refine KR.out _)))
            refine wpQuiet_nil ?_
            intro W9 hw'
            obtain ⟨⟨Wx, hW9⟩, hw''⟩ := hw'
            subst hw''
            have HB9 := Hid.intro (k_trans HB.out hW9)
            clear m3 n3 m5 m6 n5 n6 hne KR hW9
            go_wp2
            go_roundw
            case rel => exact ⟨k + 1, by omega, by go_num, HB9⟩
            case measure => simp [intOf]; omega
        · obtain rfl : k = t.rows.length := by omega
          obtain ⟨p0, p1', p2, p3, p4⟩ := fiveO HTr
          obtain ⟨b1, off1, cap1', e1, hc11, hc12, hbl1, u1, x0, x1, x2⟩ := At.get (R1.out.kept HB.out) (i := i) (by rw [hXl]; omega)
          simp only [Value.slice.injEq] at e1
          obtain ⟨rfl, hdd, rfl⟩ := e1
          clear hdd
          rw [HNw.out] at x1 x2
          obtain ⟨c1, d1, rfl, _⟩ := At.form x2
          rw [hXl] at hc11
          unfold maxLen at hc12
          clear x1 x2
          have KO := Hid.intro (fun (p : BW wr) => bw_of (by have := implTblOk p1 _ q1 _ X p.u ((C1.out.kept HB.out).kept p.h) (by rw [hXl]; exact (R1.out.kept HB.out).kept p.h); rw [HOk.out, hXl] at this; exact this))
          have KP := Hid.intro (fun (p : BW wr) => bw_of (by have := implTblPart p1 _ q1 _ X (i : Int) p.u ((C1.out.kept HB.out).kept p.h) (by rw [hXl]; exact (R1.out.kept HB.out).kept p.h); rw [HPa.out, hXl] at this; exact this))
          have KC := Hid.intro (fun (p : BW wr) => bw_of (by have := implTblCells p1 _ q1 _ X HTo2.out p.u (by rw [hXl]; exact (R1.out.kept HB.out).kept p.h); rw [HCn.out, hXl] at this; exact this))
          have KD := Hid.intro (fun (p : BW wr) => bw_of (implTblCells ac ar cc cr t HTo.out p.u ((R0.out.kept HB.out).kept p.h)))
          generalize cnTo t.rows t.rows.length = cn at KC KD
          have hcc : ((cn : Int) == (cn : Int)) = true := by simp
          have hii : i ≤ t.rows.length := hi4
          go_upto_region 20 with fail
          clear p0 p1' p2 p3 p4
          obtain ⟨t0, t1, t2, t3, t4⟩ := fiveO HTr
          obtain ⟨y0, y1, y2, y3, y4⟩ := fiveO H1r
          have m0 := bw_cell (a := ⟨tb, 0, none⟩) l1 t0
          have m1 := bw_cell (a := ⟨tb, 1, none⟩) l1 t1
          have m2 := bw_cell (a := ⟨tb, 2, none⟩) l1 t2
          have m3 := bw_cell (a := ⟨tb, 3, none⟩) l1 t3
          have m4 := bw_cell (a := ⟨tb, 4, none⟩) l1 t4
          have n0 := bw_cell (a := ⟨b1x, 0, none⟩) l2 y0
          have n1 := bw_cell (a := ⟨b1x, 1, none⟩) l2 y1
          have n2 := bw_cell (a := ⟨b1x, 2, none⟩) l2 y2
          have n3 := bw_cell (a := ⟨b1x, 3, none⟩) l2 y3
          have n4 := bw_cell (a := ⟨b1x, 4, none⟩) l2 y4
          have m5 := bw_cell hbl1 x0
          clear x0 t0 t1 t2 t3 t4 y0 y1 y2 y3 y4 HTr H1r hXl
          refine wp_region_quiet_below hmx (by kernel_rfl) ?_
          repeat (go_big_quiet_step (first | (go_at_call 11; refine KO.out _) | (go_at_call 12; refine KP.out _) | (go_at_call 13; first | (with_reducible refine KC.out _) | (with_reducible refine KD.out _))))
          refine wpQuiet_nil ?_
          intro W9 hw'
          obtain ⟨⟨Wx, hW9⟩, hw''⟩ := hw'
          subst hw''
          have HB9 := Hid.intro (k_trans HB.out hW9)
          clear hW9
          go_wp2
          go_ret
          exact ⟨rfl, k_trans HK.out HB9.out⟩

theorem lawER (a : Option Addr) (len cap : Nat) (w : World) (h : IsCode w a len cap) :
    Calls Try.prog 3 #[.slice a len cap] w fun e w' => e = .returned (.bool true) ∧ Below w.heap.size w w' := by
  by_cases hl : len ≤ 1048576
  · exact lawER_walk a len cap hl w h
  · have hl' : (1048576 : Int) < (len : Int) := by omega
    clear h
    go_enter Try.func3, Try.ntmps3
    go_wp2
    go_ret
    exact ⟨rfl, Below.refl _ _⟩
end Go.Proofs.Ytggmjiddadjilak
