/-
  PROVED HERE: the law FnEdtPut returns true at every code that lies in memory.
-/
import Derived.Test.YtggmjiddadjilajB5
import Derived.Test.YtggmjiddadjilajB14
import Derived.Test.YtggmjiddadjilajB17
import Derived.Test.YtggmjiddadjilajB19
import Derived.Test.YtggmjiddadjilajB20
import Derived.Test.YtggmjiddadjilajB28
import Derived.Test.YtggmjiddadjilajB6
import Derived.Test.YtggmjiddadjilajB15
import Derived.Test.YtggmjiddadjilajB4
namespace Go.Proofs.Ytggmjiddadjilaj
open Go.RowKit Go.BigFrame

set_option maxRecDepth 100000 in
set_option maxHeartbeats 3000000 in
theorem lawEP_walk (A : Option Addr) (len cap : Nat) (hlen : len ≤ 1048576) (w : World) (h : IsCode w A len cap) :
    Calls Try.prog 4 #[.slice A len cap] w fun e w' => e = .returned (.bool true) ∧ Below w.heap.size w w' := by
  have hl : ¬ (1048576 : Int) < (len : Int) := by omega
  have hmx : Try.prog.follows .mixedOrders = true := by kernel_rfl
  have HD := Hid.intro h
  clear h
  go_enter Try.func4, Try.ntmps4
  go_wp2_with fail
  refine (drawEdtPut_any _ _ _ _ HD.out).mono ?_
  rintro e w1 ⟨ac, ar, cc, cr, t, row, at', x, rfl, _, hq1, hq2, hxs, hC1, hR1, hb1⟩
  have HK := Hid.intro (k_alloc (k_alloc hb1 (.cells #[.slice ac t.cols.length cc, .int .i64 t.head, .int .i64 t.foot, .slice ar t.rows.length cr, .int .i64 t.gap] 37)) (.cells #[.string x.s, .int .i64 x.c, .int .i64 x.r, .int .i64 x.a1, .int .i64 x.b1, .int .i64 x.a2, .int .i64 x.b2, .int .i64 x.a3, .int .i64 x.b3, .int .i64 x.a4, .int .i64 x.b4] 41))
  have HT := Hid.intro (alloc_at (o := (.cells #[.string x.s, .int .i64 x.c, .int .i64 x.r, .int .i64 x.a1, .int .i64 x.b1, .int .i64 x.a2, .int .i64 x.b2, .int .i64 x.a3, .int .i64 x.b3, .int .i64 x.a4, .int .i64 x.b4] 41)) (newestB w1 (.cells #[.slice ac t.cols.length cc, .int .i64 t.head, .int .i64 t.foot, .slice ar t.rows.length cr, .int .i64 t.gap] 37)))
  have HC : Hid (((w1.alloc (.cells #[.slice ac t.cols.length cc, .int .i64 t.head, .int .i64 t.foot, .slice ar t.rows.length cr, .int .i64 t.gap] 37)).alloc (.cells #[.string x.s, .int .i64 x.c, .int .i64 x.r, .int .i64 x.a1, .int .i64 x.b1, .int .i64 x.a2, .int .i64 x.b2, .int .i64 x.a3, .int .i64 x.b3, .int .i64 x.a4, .int .i64 x.b4] 41)).heap[(w1.alloc (.cells #[.slice ac t.cols.length cc, .int .i64 t.head, .int .i64 t.foot, .slice ar t.rows.length cr, .int .i64 t.gap] 37)).heap.size]? = some (.cells (cellVs x).toArray 41)) := newestB _ _
  have C0 := Hid.intro (hC1.kept (k_alloc (k_alloc (Below.refl _ _) (.cells #[.slice ac t.cols.length cc, .int .i64 t.head, .int .i64 t.foot, .slice ar t.rows.length cr, .int .i64 t.gap] 37)) (.cells #[.string x.s, .int .i64 x.c, .int .i64 x.r, .int .i64 x.a1, .int .i64 x.b1, .int .i64 x.a2, .int .i64 x.b2, .int .i64 x.a3, .int .i64 x.b3, .int .i64 x.a4, .int .i64 x.b4] 41)))
  have R0 := Hid.intro (hR1.kept (k_alloc (k_alloc (Below.refl _ _) (.cells #[.slice ac t.cols.length cc, .int .i64 t.head, .int .i64 t.foot, .slice ar t.rows.length cr, .int .i64 t.gap] 37)) (.cells #[.string x.s, .int .i64 x.c, .int .i64 x.r, .int .i64 x.a1, .int .i64 x.b1, .int .i64 x.a2, .int .i64 x.b2, .int .i64 x.a3, .int .i64 x.b3, .int .i64 x.a4, .int .i64 x.b4] 41)))
  have HTx := Hid.intro (txM_at hR1)
  have hxm : x.s.size ≤ maxLen := by unfold maxLen; omega
  clear hC1 hR1 hb1 HD
  have HTe : Hid (TxM (edPut t row at' x).1) := txM_put HTx.out hxm
  have hrow : -9223372036854775808 ≤ row ∧ row ≤ 9223372036854775807 := by omega
  have KSp := Hid.intro (fun (a b : Option Addr) (c d : Nat) (W : World) (z : Nat) (h1 : ColsAt W z (.slice a t.cols.length c) t.cols) (h2 : RowsAt W z (.slice b t.rows.length d) t.rows) => specEdtPut a b c d t row at' hrow x hxm W h1 h2)
  have KIm := Hid.intro (fun (a b : Option Addr) (c d : Nat) (W : World) (z : Nat) (h1 : ColsAt W z (.slice a t.cols.length c) t.cols) (h2 : RowsAt W z (.slice b t.rows.length d) t.rows) => implEdtPut a b c d t row at' hrow x hxm W h1 h2)
  obtain ⟨E, hE⟩ : ∃ E, edPut t row at' x = E := ⟨_, rfl⟩
  rw [hE] at HTe KSp KIm
  have HEq := Hid.intro hE
  clear hE
  have hbb : (E.2 != E.2) = false := by simp
  rw [show (w1.alloc (.cells #[.slice ac t.cols.length cc, .int .i64 t.head, .int .i64 t.foot, .slice ar t.rows.length cr, .int .i64 t.gap] 37)).heap.size = w1.heap.size + 1 by simp] at HC
  go_upto_region 4 with fail
  generalize (w1.alloc (.cells #[.slice ac t.cols.length cc, .int .i64 t.head, .int .i64 t.foot, .slice ar t.rows.length cr, .int .i64 t.gap] 37)).alloc (.cells #[.string x.s, .int .i64 x.c, .int .i64 x.r, .int .i64 x.a1, .int .i64 x.b1, .int .i64 x.a2, .int .i64 x.b2, .int .i64 x.a3, .int .i64 x.b3, .int .i64 x.a4, .int .i64 x.b4] 41) = W1 at HK HT HC C0 R0 ⊢
  generalize w1.heap.size + 1 = cb at HC ⊢
  generalize w1.heap.size = tb at HT ⊢
  obtain ⟨m0, m1, m2, m3, m4⟩ := fiveO HT.out
  obtain ⟨n0, n1, n2, n3, n4, n5, n6, n7, n8, n9, n10⟩ := elevenO HC.out
  go_wp2_with fail
  refine (KIm.out _ _ _ _ _ _ C0.out R0.out).mono ?_
  rintro e w2 ⟨p1, q1, r1, s1, d1, d2, rfl, hO, hb⟩
  have hXC := hO.cols
  have hXR := hO.rows HTe.out
  obtain ⟨_, _, e1, _⟩ := At.form hXC
  simp only [Value.slice.injEq] at e1
  have e1' := e1.2.1
  clear e1
  subst e1'
  obtain ⟨_, _, e2, _⟩ := At.form hXR
  simp only [Value.slice.injEq] at e2
  have e2' := e2.2.1
  clear e2
  subst e2'
  have C1 := Hid.intro hXC
  have R1 := Hid.intro hXR
  replace HK := Hid.intro (k_trans HK.out hb)
  replace HT := Hid.intro (box_kept HT.out hb)
  replace HC := Hid.intro (box_kept HC.out hb)
  replace C0 := Hid.intro (C0.out.kept hb)
  replace R0 := Hid.intro (R0.out.kept hb)
  clear m0 m1 m2 m3 m4
  clear n0 n1 n2 n3 n4 n5 n6 n7 n8 n9 n10
  clear hb hO hXC hXR
  replace HK := Hid.intro (k_trans HK.out (k_alloc (Below.refl _ _) (.cells #[.slice p1 E.1.cols.length q1, .int .i64 E.1.head, .int .i64 E.1.foot, .slice r1 E.1.rows.length s1, .int .i64 E.1.gap] 37)))
  replace HT := Hid.intro (box_kept HT.out (k_alloc (Below.refl _ _) (.cells #[.slice p1 E.1.cols.length q1, .int .i64 E.1.head, .int .i64 E.1.foot, .slice r1 E.1.rows.length s1, .int .i64 E.1.gap] 37)))
  replace HC := Hid.intro (box_kept HC.out (k_alloc (Below.refl _ _) (.cells #[.slice p1 E.1.cols.length q1, .int .i64 E.1.head, .int .i64 E.1.foot, .slice r1 E.1.rows.length s1, .int .i64 E.1.gap] 37)))
  replace C0 := Hid.intro (C0.out.kept (k_alloc (Below.refl _ _) (.cells #[.slice p1 E.1.cols.length q1, .int .i64 E.1.head, .int .i64 E.1.foot, .slice r1 E.1.rows.length s1, .int .i64 E.1.gap] 37)))
  replace R0 := Hid.intro (R0.out.kept (k_alloc (Below.refl _ _) (.cells #[.slice p1 E.1.cols.length q1, .int .i64 E.1.head, .int .i64 E.1.foot, .slice r1 E.1.rows.length s1, .int .i64 E.1.gap] 37)))
  replace C1 := Hid.intro (C1.out.kept (k_alloc (Below.refl _ _) (.cells #[.slice p1 E.1.cols.length q1, .int .i64 E.1.head, .int .i64 E.1.foot, .slice r1 E.1.rows.length s1, .int .i64 E.1.gap] 37)))
  replace R1 := Hid.intro (R1.out.kept (k_alloc (Below.refl _ _) (.cells #[.slice p1 E.1.cols.length q1, .int .i64 E.1.head, .int .i64 E.1.foot, .slice r1 E.1.rows.length s1, .int .i64 E.1.gap] 37)))
  have H1 := Hid.intro (newestB w2 (.cells #[.slice p1 E.1.cols.length q1, .int .i64 E.1.head, .int .i64 E.1.foot, .slice r1 E.1.rows.length s1, .int .i64 E.1.gap] 37))
  go_upto_region 5 with fail
  generalize w2.alloc (.cells #[.slice p1 E.1.cols.length q1, .int .i64 E.1.head, .int .i64 E.1.foot, .slice r1 E.1.rows.length s1, .int .i64 E.1.gap] 37) = W2 at HK HT HC H1 C0 R0 C1 R1 ⊢
  generalize w2.heap.size = b1x at H1 ⊢
  obtain ⟨m0, m1, m2, m3, m4⟩ := fiveO HT.out
  obtain ⟨n0, n1, n2, n3, n4, n5, n6, n7, n8, n9, n10⟩ := elevenO HC.out
  go_wp2_with fail
  refine (KSp.out _ _ _ _ _ _ C0.out R0.out).mono ?_
  rintro e w3 ⟨p2, q2, r2, s2, d1, d2, rfl, hO, hb⟩
  have hXC := hO.cols
  have hXR := hO.rows HTe.out
  obtain ⟨_, _, e1, _⟩ := At.form hXC
  simp only [Value.slice.injEq] at e1
  have e1' := e1.2.1
  clear e1
  subst e1'
  obtain ⟨_, _, e2, _⟩ := At.form hXR
  simp only [Value.slice.injEq] at e2
  have e2' := e2.2.1
  clear e2
  subst e2'
  have C2 := Hid.intro hXC
  have R2 := Hid.intro hXR
  replace HK := Hid.intro (k_trans HK.out hb)
  replace HT := Hid.intro (box_kept HT.out hb)
  replace HC := Hid.intro (box_kept HC.out hb)
  replace H1 := Hid.intro (box_kept H1.out hb)
  replace C0 := Hid.intro (C0.out.kept hb)
  replace R0 := Hid.intro (R0.out.kept hb)
  replace C1 := Hid.intro (C1.out.kept hb)
  replace R1 := Hid.intro (R1.out.kept hb)
  clear m0 m1 m2 m3 m4
  clear n0 n1 n2 n3 n4 n5 n6 n7 n8 n9 n10
  clear hb hO hXC hXR
  replace HK := Hid.intro (k_trans HK.out (k_alloc (Below.refl _ _) (.cells #[.slice p2 E.1.cols.length q2, .int .i64 E.1.head, .int .i64 E.1.foot, .slice r2 E.1.rows.length s2, .int .i64 E.1.gap] 37)))
  replace HT := Hid.intro (box_kept HT.out (k_alloc (Below.refl _ _) (.cells #[.slice p2 E.1.cols.length q2, .int .i64 E.1.head, .int .i64 E.1.foot, .slice r2 E.1.rows.length s2, .int .i64 E.1.gap] 37)))
  replace HC := Hid.intro (box_kept HC.out (k_alloc (Below.refl _ _) (.cells #[.slice p2 E.1.cols.length q2, .int .i64 E.1.head, .int .i64 E.1.foot, .slice r2 E.1.rows.length s2, .int .i64 E.1.gap] 37)))
  replace H1 := Hid.intro (box_kept H1.out (k_alloc (Below.refl _ _) (.cells #[.slice p2 E.1.cols.length q2, .int .i64 E.1.head, .int .i64 E.1.foot, .slice r2 E.1.rows.length s2, .int .i64 E.1.gap] 37)))
  replace C0 := Hid.intro (C0.out.kept (k_alloc (Below.refl _ _) (.cells #[.slice p2 E.1.cols.length q2, .int .i64 E.1.head, .int .i64 E.1.foot, .slice r2 E.1.rows.length s2, .int .i64 E.1.gap] 37)))
  replace R0 := Hid.intro (R0.out.kept (k_alloc (Below.refl _ _) (.cells #[.slice p2 E.1.cols.length q2, .int .i64 E.1.head, .int .i64 E.1.foot, .slice r2 E.1.rows.length s2, .int .i64 E.1.gap] 37)))
  replace C1 := Hid.intro (C1.out.kept (k_alloc (Below.refl _ _) (.cells #[.slice p2 E.1.cols.length q2, .int .i64 E.1.head, .int .i64 E.1.foot, .slice r2 E.1.rows.length s2, .int .i64 E.1.gap] 37)))
  replace R1 := Hid.intro (R1.out.kept (k_alloc (Below.refl _ _) (.cells #[.slice p2 E.1.cols.length q2, .int .i64 E.1.head, .int .i64 E.1.foot, .slice r2 E.1.rows.length s2, .int .i64 E.1.gap] 37)))
  replace C2 := Hid.intro (C2.out.kept (k_alloc (Below.refl _ _) (.cells #[.slice p2 E.1.cols.length q2, .int .i64 E.1.head, .int .i64 E.1.foot, .slice r2 E.1.rows.length s2, .int .i64 E.1.gap] 37)))
  replace R2 := Hid.intro (R2.out.kept (k_alloc (Below.refl _ _) (.cells #[.slice p2 E.1.cols.length q2, .int .i64 E.1.head, .int .i64 E.1.foot, .slice r2 E.1.rows.length s2, .int .i64 E.1.gap] 37)))
  have H2 := Hid.intro (newestB w3 (.cells #[.slice p2 E.1.cols.length q2, .int .i64 E.1.head, .int .i64 E.1.foot, .slice r2 E.1.rows.length s2, .int .i64 E.1.gap] 37))
  go_upto_region 6 with fail
  generalize w3.alloc (.cells #[.slice p2 E.1.cols.length q2, .int .i64 E.1.head, .int .i64 E.1.foot, .slice r2 E.1.rows.length s2, .int .i64 E.1.gap] 37) = W3 at HK HT HC H1 H2 C0 R0 C1 R1 C2 R2 ⊢
  generalize w3.heap.size = b2x at H2 ⊢
  obtain ⟨m0, m1, m2, m3, m4⟩ := fiveO H1.out
  obtain ⟨n0, n1, n2, n3, n4⟩ := fiveO H2.out
  go_wp2_with fail
  refine (pwTable_same _ _ E.1 _ ⟨_, _, rfl, C1.out, R1.out⟩ ⟨_, _, rfl, C2.out, R2.out⟩).mono ?_
  rintro e w4 ⟨rfl, hb⟩
  replace HK := Hid.intro (k_trans HK.out hb)
  replace HT := Hid.intro (box_kept HT.out hb)
  replace HC := Hid.intro (box_kept HC.out hb)
  replace H1 := Hid.intro (box_kept H1.out hb)
  replace C0 := Hid.intro (C0.out.kept hb)
  replace R0 := Hid.intro (R0.out.kept hb)
  replace C1 := Hid.intro (C1.out.kept hb)
  replace R1 := Hid.intro (R1.out.kept hb)
  clear m0 m1 m2 m3 m4 n0 n1 n2 n3 n4
  clear hb H2 C2 R2 KSp KIm
  obtain ⟨m0, m1, m2, m3, m4⟩ := fiveO HT.out
  have KT := Hid.intro (specTblOk ac ar cc cr t w4 C0.out R0.out)
  cases htk : tblB t with
  | false =>
    rw [htk] at KT
    obtain rfl : E = (zT, false) := by rw [← HEq.out, edPut, if_neg (by rw [htk]; simp)]
    clear htk HEq
    go_wp2_with fail
    refine KT.out.mono ?_
    rintro e w5 ⟨rfl, hb⟩
    replace HK := Hid.intro (k_trans HK.out hb)
    replace HT := Hid.intro (box_kept HT.out hb)
    replace HC := Hid.intro (box_kept HC.out hb)
    replace H1 := Hid.intro (box_kept H1.out hb)
    replace C0 := Hid.intro (C0.out.kept hb)
    replace R0 := Hid.intro (R0.out.kept hb)
    replace C1 := Hid.intro (C1.out.kept hb)
    replace R1 := Hid.intro (R1.out.kept hb)
    clear m0 m1 m2 m3 m4
    clear hb KT
    obtain ⟨m0, m1, m2, m3, m4⟩ := fiveO H1.out
    go_wp2_with fail
    refine (pwTable_same _ _ zT _ ⟨_, _, rfl, C1.out, R1.out⟩ (z2 := 0) ⟨_, _, rfl, ⟨none, 0, rfl, Nat.le_refl _, Nat.zero_le _, fun i hi => absurd hi (by simp [zT])⟩, ⟨none, 0, rfl, Nat.le_refl _, Nat.zero_le _, fun i hi => absurd hi (by simp [zT])⟩⟩).mono ?_
    rintro e w6 ⟨rfl, hb⟩
    replace HK := Hid.intro (k_trans HK.out hb)
    clear m0 m1 m2 m3 m4
    clear hb
    go_wp2_with fail
    refine (pwOk_any _).mono ?_
    rintro e w7 ⟨rfl, e7⟩
    subst e7
    go_wp2
    go_ret
    exact ⟨rfl, HK.out⟩
  | true =>
    rw [htk] at KT
    have HTk := Hid.intro htk
    clear htk
    go_wp2_with fail
    refine KT.out.mono ?_
    rintro e w5 ⟨rfl, hb⟩
    replace HK := Hid.intro (k_trans HK.out hb)
    replace HT := Hid.intro (box_kept HT.out hb)
    replace HC := Hid.intro (box_kept HC.out hb)
    replace H1 := Hid.intro (box_kept H1.out hb)
    replace C0 := Hid.intro (C0.out.kept hb)
    replace R0 := Hid.intro (R0.out.kept hb)
    replace C1 := Hid.intro (C1.out.kept hb)
    replace R1 := Hid.intro (R1.out.kept hb)
    clear m0 m1 m2 m3 m4
    clear hb KT
    cases hpl : (cB x && plB t row at') with
    | false =>
      obtain rfl : E = (t, false) := by rw [← HEq.out, edPut, if_pos HTk.out, if_neg (by rw [hpl]; simp)]
      clear hpl HEq
      obtain ⟨m0, m1, m2, m3, m4⟩ := fiveO H1.out
      obtain ⟨n0, n1, n2, n3, n4⟩ := fiveO HT.out
      go_wp2_with fail
      refine (pwTable_same _ _ t _ ⟨_, _, rfl, C1.out, R1.out⟩ ⟨_, _, rfl, C0.out, R0.out⟩).mono ?_
      rintro e w6 ⟨rfl, hb⟩
      replace HK := Hid.intro (k_trans HK.out hb)
      clear hb
      go_wp2
      go_ret
      exact ⟨rfl, HK.out⟩
    | true =>
      obtain rfl : E = (setRow t row.toNat (insC (t.rows.getD row.toNat dR).cells at'.toNat x), true) := by rw [← HEq.out, edPut, if_pos HTk.out, if_pos hpl]
      rw [Bool.and_eq_true] at hpl
      obtain ⟨hcx, hpl⟩ := hpl
      obtain ⟨r, a, rfl, rfl, hr, ha, hl5⟩ := plB_iff.1 hpl
      rw [Int.toNat_natCast, Int.toNat_natCast] at *
      have HOk := Hid.intro (put_ok (a := a) HTk.out hcx hr hl5)
      have HTo := Hid.intro (tot_ok' HTk.out)
      have HTo2 := Hid.intro (tot_ok' HOk.out)
      have HCn := Hid.intro (put_cells t hr a x)
      have HBk := Hid.intro (put_back HTk.out hcx hr ha hl5)
      have HXl := Hid.intro (setRow_len t r (insC (t.rows.getD r dR).cells a x))
      have HGt := Hid.intro (setRow_get t hr (insC (t.rows.getD r dR).cells a x))
      have HIx := Hid.intro (insC_get (t.rows.getD r dR).cells ha x)
      have HIl := Hid.intro (insC_len (t.rows.getD r dR).cells a x)
      generalize setRow t r (insC (t.rows.getD r dR).cells a x) = X at *
      generalize (t.rows.getD r dR).whole = qw at HGt
      generalize hml : (t.rows.getD r dR).cells.length = ml at ha hl5 HIl
      generalize insC (t.rows.getD r dR).cells a x = ics at HGt HIx HIl
      clear hpl HEq hbb hcx hml hq1 hq2
      dsimp only at R1 H1 C1 HTe ⊢
      generalize Value.agg #[.slice ac t.cols.length cc, .int .i64 t.head, .int .i64 t.foot, .slice ar t.rows.length cr, .int .i64 t.gap] = va
      generalize Value.agg #[.slice p1 X.cols.length q1, .int .i64 X.head, .int .i64 X.foot, .slice r1 X.rows.length s1, .int .i64 X.gap] = vx
      generalize Value.agg #[.slice p2 X.cols.length q2, .int .i64 X.head, .int .i64 X.foot, .slice r2 X.rows.length s2, .int .i64 X.gap] = vw
      have KTk := Hid.intro (implEdtTake p1 r1 q1 s1 X (r : Int) (a : Int) hrow w5 C1.out R1.out)
      rw [HBk.out] at KTk
      obtain ⟨m0, m1, m2, m3, m4⟩ := fiveO H1.out
      go_wp2_with fail
      refine KTk.out.mono ?_
      rintro e w6 ⟨p3, q3, r3, s3, d1, d2, rfl, hO, hb⟩
      have hXC := hO.cols
      have hXR := hO.rows HTx.out
      obtain ⟨_, _, e1, _⟩ := At.form hXC
      simp only [Value.slice.injEq] at e1
      have e1' := e1.2.1
      clear e1
      subst e1'
      obtain ⟨_, _, e2, _⟩ := At.form hXR
      simp only [Value.slice.injEq] at e2
      have e2' := e2.2.1
      clear e2
      subst e2'
      have C3 := Hid.intro hXC
      have R3 := Hid.intro hXR
      replace HK := Hid.intro (k_trans HK.out hb)
      replace HT := Hid.intro (box_kept HT.out hb)
      replace HC := Hid.intro (box_kept HC.out hb)
      replace H1 := Hid.intro (box_kept H1.out hb)
      replace C0 := Hid.intro (C0.out.kept hb)
      replace R0 := Hid.intro (R0.out.kept hb)
      replace C1 := Hid.intro (C1.out.kept hb)
      replace R1 := Hid.intro (R1.out.kept hb)
      clear m0 m1 m2 m3 m4
      clear hb hO hXC hXR KTk
      replace HK := Hid.intro (k_trans HK.out (k_alloc (Below.refl _ _) (.cells #[.slice p3 t.cols.length q3, .int .i64 t.head, .int .i64 t.foot, .slice r3 t.rows.length s3, .int .i64 t.gap] 37)))
      replace HT := Hid.intro (box_kept HT.out (k_alloc (Below.refl _ _) (.cells #[.slice p3 t.cols.length q3, .int .i64 t.head, .int .i64 t.foot, .slice r3 t.rows.length s3, .int .i64 t.gap] 37)))
      replace HC := Hid.intro (box_kept HC.out (k_alloc (Below.refl _ _) (.cells #[.slice p3 t.cols.length q3, .int .i64 t.head, .int .i64 t.foot, .slice r3 t.rows.length s3, .int .i64 t.gap] 37)))
      replace H1 := Hid.intro (box_kept H1.out (k_alloc (Below.refl _ _) (.cells #[.slice p3 t.cols.length q3, .int .i64 t.head, .int .i64 t.foot, .slice r3 t.rows.length s3, .int .i64 t.gap] 37)))
      replace C0 := Hid.intro (C0.out.kept (k_alloc (Below.refl _ _) (.cells #[.slice p3 t.cols.length q3, .int .i64 t.head, .int .i64 t.foot, .slice r3 t.rows.length s3, .int .i64 t.gap] 37)))
      replace R0 := Hid.intro (R0.out.kept (k_alloc (Below.refl _ _) (.cells #[.slice p3 t.cols.length q3, .int .i64 t.head, .int .i64 t.foot, .slice r3 t.rows.length s3, .int .i64 t.gap] 37)))
      replace C1 := Hid.intro (C1.out.kept (k_alloc (Below.refl _ _) (.cells #[.slice p3 t.cols.length q3, .int .i64 t.head, .int .i64 t.foot, .slice r3 t.rows.length s3, .int .i64 t.gap] 37)))
      replace R1 := Hid.intro (R1.out.kept (k_alloc (Below.refl _ _) (.cells #[.slice p3 t.cols.length q3, .int .i64 t.head, .int .i64 t.foot, .slice r3 t.rows.length s3, .int .i64 t.gap] 37)))
      replace C3 := Hid.intro (C3.out.kept (k_alloc (Below.refl _ _) (.cells #[.slice p3 t.cols.length q3, .int .i64 t.head, .int .i64 t.foot, .slice r3 t.rows.length s3, .int .i64 t.gap] 37)))
      replace R3 := Hid.intro (R3.out.kept (k_alloc (Below.refl _ _) (.cells #[.slice p3 t.cols.length q3, .int .i64 t.head, .int .i64 t.foot, .slice r3 t.rows.length s3, .int .i64 t.gap] 37)))
      have H3 := Hid.intro (newestB w6 (.cells #[.slice p3 t.cols.length q3, .int .i64 t.head, .int .i64 t.foot, .slice r3 t.rows.length s3, .int .i64 t.gap] 37))
      go_upto_region 13 with fail
      generalize w6.alloc (.cells #[.slice p3 t.cols.length q3, .int .i64 t.head, .int .i64 t.foot, .slice r3 t.rows.length s3, .int .i64 t.gap] 37) = wr at HK HT HC H1 H3 C0 R0 C1 R1 C3 R3 ⊢
      generalize w6.heap.size = b3x at H3 ⊢
      generalize Value.agg #[.slice p3 t.cols.length q3, .int .i64 t.head, .int .i64 t.foot, .slice r3 t.rows.length s3, .int .i64 t.gap] = vy
      generalize Value.agg #[.string x.s, .int .i64 x.c, .int .i64 x.r, .int .i64 x.a1, .int .i64 x.b1, .int .i64 x.a2, .int .i64 x.b2, .int .i64 x.a3, .int .i64 x.b3, .int .i64 x.a4, .int .i64 x.b4] = vc
      have l1 := (Array.getElem?_eq_some_iff.1 HT.out).1
      have l2 := (Array.getElem?_eq_some_iff.1 H1.out).1
      have l3 := (Array.getElem?_eq_some_iff.1 H3.out).1
      have l4 := (Array.getElem?_eq_some_iff.1 HC.out).1
      have hne := bw_some wr
      obtain ⟨g1, off1, cap1', e1, hc11, hc12, hbl1, u1, x0, x1, x2⟩ := At.get R1.out (i := r) (by rw [HXl.out]; exact hr)
      simp only [Value.slice.injEq, true_and] at e1
      obtain ⟨rfl, rfl⟩ := e1
      rw [HGt.out] at x1 x2
      obtain ⟨g2, off2, cap2', e2, hc21, hc22, hbl2, x3, _⟩ := At.get x2 (i := a) (by show a < ics.length; rw [HIl.out]; omega)
      subst e2
      have hil := HIl.out
      rw [HIx.out] at x3
      obtain ⟨x30, x31, x32, x33, x34, x35, x36, x37, x38, x39, x310⟩ := x3
      have hXl := HXl.out
      unfold maxLen at hc12 hc22
      clear x1 x2
      have KO := Hid.intro (fun (p : BW wr) => bw_of (by have := implTblOk p1 _ q1 _ X p.u (C1.out.kept p.h) (R1.out.kept p.h); rw [HOk.out, HXl.out] at this; exact this))
      have KC := Hid.intro (fun (p : BW wr) => bw_of (by have := implTblCells p1 _ q1 _ X HTo2.out p.u (R1.out.kept p.h); rw [HCn.out, HXl.out] at this; exact this))
      have KD := Hid.intro (fun (p : BW wr) => bw_of (implTblCells ac ar cc cr t HTo.out p.u (R0.out.kept p.h)))
      have KE := Hid.intro (fun (p : BW wr) => bw_of (pwTable_same _ _ t p.u ⟨_, _, rfl, C3.out.kept p.h, R3.out.kept p.h⟩ ⟨_, _, rfl, C0.out.kept p.h, R0.out.kept p.h⟩))
      have hcs : cnTo t.rows t.rows.length ≤ 1048576 := Nat.le_trans (cnTo_le _ _) HTo.out
      generalize cnTo t.rows t.rows.length = cn at KC KD hcs
      have hcc : (((cn + 1 : Nat) : Int) == (cn : Int) + 1) = true := by simp
      have hcc2 : ((cn : Int) + 1 == (cn : Int) + 1) = true := by simp
      obtain ⟨t0, t1, t2, t3, t4⟩ := fiveO HT.out
      have m0 := bw_cell (a := ⟨tb, 0, none⟩) l1 t0
      have m1 := bw_cell (a := ⟨tb, 1, none⟩) l1 t1
      have m2 := bw_cell (a := ⟨tb, 2, none⟩) l1 t2
      have m3 := bw_cell (a := ⟨tb, 3, none⟩) l1 t3
      have m4 := bw_cell (a := ⟨tb, 4, none⟩) l1 t4
      clear t0 t1 t2 t3 t4
      obtain ⟨t0, t1, t2, t3, t4⟩ := fiveO H1.out
      have n0 := bw_cell (a := ⟨b1x, 0, none⟩) l2 t0
      have n1 := bw_cell (a := ⟨b1x, 1, none⟩) l2 t1
      have n2 := bw_cell (a := ⟨b1x, 2, none⟩) l2 t2
      have n3 := bw_cell (a := ⟨b1x, 3, none⟩) l2 t3
      have n4 := bw_cell (a := ⟨b1x, 4, none⟩) l2 t4
      clear t0 t1 t2 t3 t4
      obtain ⟨t0, t1, t2, t3, t4⟩ := fiveO H3.out
      have o0 := bw_cell (a := ⟨b3x, 0, none⟩) l3 t0
      have o1 := bw_cell (a := ⟨b3x, 1, none⟩) l3 t1
      have o2 := bw_cell (a := ⟨b3x, 2, none⟩) l3 t2
      have o3 := bw_cell (a := ⟨b3x, 3, none⟩) l3 t3
      have o4 := bw_cell (a := ⟨b3x, 4, none⟩) l3 t4
      clear t0 t1 t2 t3 t4
      obtain ⟨t0, t1, t2, t3, t4, t5, t6, t7, t8, t9, t10⟩ := elevenO HC.out
      have c0 := bw_cell (a := ⟨cb, 0, none⟩) l4 t0
      have c1 := bw_cell (a := ⟨cb, 1, none⟩) l4 t1
      have c2 := bw_cell (a := ⟨cb, 2, none⟩) l4 t2
      have c3 := bw_cell (a := ⟨cb, 3, none⟩) l4 t3
      have c4 := bw_cell (a := ⟨cb, 4, none⟩) l4 t4
      have c5 := bw_cell (a := ⟨cb, 5, none⟩) l4 t5
      have c6 := bw_cell (a := ⟨cb, 6, none⟩) l4 t6
      have c7 := bw_cell (a := ⟨cb, 7, none⟩) l4 t7
      have c8 := bw_cell (a := ⟨cb, 8, none⟩) l4 t8
      have c9 := bw_cell (a := ⟨cb, 9, none⟩) l4 t9
      have c10 := bw_cell (a := ⟨cb, 10, none⟩) l4 t10
      clear t0 t1 t2 t3 t4 t5 t6 t7 t8 t9 t10
      have f0 := bw_cell hbl1 x0
      have e0 := bw_cell hbl2 x30
      have e1 := bw_cell hbl2 x31
      have e2 := bw_cell hbl2 x32
      have e3 := bw_cell hbl2 x33
      have e4 := bw_cell hbl2 x34
      have e5 := bw_cell hbl2 x35
      have e6 := bw_cell hbl2 x36
      have e7 := bw_cell hbl2 x37
      have e8 := bw_cell hbl2 x38
      have e9 := bw_cell hbl2 x39
      have e10 := bw_cell hbl2 x310
      rw [hil] at f0 hc21
      rw [hXl] at n3 hc11
      have hra : a < ml + 1 := by omega
      clear x0 x30 x31 x32 x33 x34 x35 x36 x37 x38 x39 x310 hXl hil
      refine wp_region_quiet_below hmx (by kernel_rfl) ?_
      repeat (go_big_quiet_step (first | (go_at_call 19; refine KO.out _) | (go_at_call 16; refine KE.out _) | (go_at_call 20; first | (with_reducible refine KC.out _) | (with_reducible refine KD.out _))))
      refine wpQuiet_nil ?_
      intro W9 hw'
      obtain ⟨⟨Wx, hW9⟩, hw''⟩ := hw'
      subst hw''
      have HB9 := Hid.intro (k_trans HK.out hW9)
      clear hW9
      go_wp2
      go_ret
      exact ⟨rfl, HB9.out⟩

theorem lawEP (a : Option Addr) (len cap : Nat) (w : World) (h : IsCode w a len cap) :
    Calls Try.prog 4 #[.slice a len cap] w fun e w' => e = .returned (.bool true) ∧ Below w.heap.size w w' := by
  by_cases hl : len ≤ 1048576
  · exact lawEP_walk a len cap hl w h
  · have hl' : (1048576 : Int) < (len : Int) := by omega
    clear h
    go_enter Try.func4, Try.ntmps4
    go_wp2
    go_ret
    exact ⟨rfl, Below.refl _ _⟩
end Go.Proofs.Ytggmjiddadjilaj
