/- PROVED: at every grid and every two numbers the law FnExactQryRange returns true (the program's QryRange answers as the model's, and leaves its argument as it was) and its arguments read as before; no condition. -/
import Derived.Test.YtggmjiddadjilanB12
import Derived.Test.YtggmjiddadjilanB7
import Derived.WalkKit
import Derived.ProofKit
import Derived.OpenShut
import Derived.ShutString
import Derived.ChangeOld
import Derived.Below
import Derived.Lib.SmallJoins
namespace Go.Proofs.Ytggmjiddadjilan.fnExactQryRange
open Go.ChangeShapes Go.WideShapes Go.ChangeAt Go.RowKit Go.Joins Go.Deep
open Go.ChangeMaps (open_string shut_string)

theorem three_cells {w : World} {g : Nat} {x0 x1 x2 : Value} {t : TypeId} (h : w.heap[g]? = some (.cells #[x0, x1, x2] t)) :
    w.cell? ⟨g, 0, none⟩ = some x0 ∧ w.cell? ⟨g, 1, none⟩ = some x1 ∧ w.cell? ⟨g, 2, none⟩ = some x2 := ⟨cellB h, cellB h, cellB h⟩
set_option maxRecDepth 100000 in
set_option maxHeartbeats 2000000 in
set_option linter.unusedVariables false in
theorem walk (v : Value) (g : G) (hgr : I64 g.rows) (hgc : I64 g.cols) (q0 : Int) (hq0 : I64 q0) (q1 : Int) (hq1 : I64 q1) (w : World) (h : GrdAt w 0 v g) :
    Calls Try.prog 4 #[v, .int .i64 q0, .int .i64 q1] w fun e w' => e = .returned (.bool true) ∧ Below w.heap.size w w' := by
  obtain ⟨vc, rfl, hc⟩ := h
  obtain ⟨ac, cc, rfl, _⟩ := At.form hc
  have K0 := Hid.intro (k_alloc (Below.refl w.heap.size w) (.cells #[.int .i64 g.rows, .int .i64 g.cols, .slice ac g.cells.length cc] 30))
  have C0 := Hid.intro hc
  clear hc
  have T0 : Hid (∀ w', Below w.heap.size w w' → GsAt w' 0 (.slice ac g.cells.length cc) g.cells) := fun w' k => C0.out.kept k
  clear C0
  by_cases hn : g.cells.length ≤ 1048576
  · have hg : ¬ (1048576 : Int) - (g.cells.length : Int) < 0 := by omega
    have HL := Hid.intro (leftOf_pos (n := 1048576) (m := g.cells.length) (by omega))
    have H1 := Hid.intro (fun ac cc W (h : GsAt W w.heap.size (.slice ac g.cells.length cc) g.cells) => specQryRange g.rows g.cols ac cc g.cells q0 q1 W h)
    have H2 := Hid.intro (fun ac cc W (h : GsAt W w.heap.size (.slice ac g.cells.length cc) g.cells) => implQryRange g.rows g.cols ac cc g.cells q0 q1 W h)
    generalize rngF ⟨g.rows, g.cols, g.cells⟩ q0 q1 = y at H1 H2
    go_enter Try.func4, Try.ntmps4
    go_wp2_with fail
    refine (szGrdGrid_any _ _ _ g.cells _ (T0.out _ K0.out)).mono ?_
    rw [HL.out]
    rintro e w1 ⟨rfl, hb1⟩
    obtain ⟨hc1, hf1⟩ := bcell hb1
    have hx1 : w.heap.size < w1.heap.size := by have := hb1.size; simp at this; omega
    have K1 := Hid.intro (k_trans K0.out hb1)
    have L1 := Hid.intro hb1
    clear hb1
    go_wp2_with fail
    refine (toGrdGrid_any _ _ _ g.cells hn _ (T0.out _ K1.out)).mono ?_
    rintro e w2 ⟨ac2, cc2, rfl, hC2, hb2⟩
    obtain ⟨hc2, hf2⟩ := bcell hb2
    have hx2 : w.heap.size < w2.heap.size := by have := hb2.size; omega
    have K2 := Hid.intro (k_trans K1.out hb2)
    have L2 := Hid.intro (k_trans L1.out hb2)
    have C2 := Hid.intro (hC2.base (z' := w.heap.size) (by omega))
    clear hb2 hC2
    go_wp2_with fail
    refine (H1.out _ _ _ C2.out).mono ?_
    rintro e w3 ⟨rfl, hb3⟩
    have L3 := Hid.intro (k_alloc (k_trans L2.out hb3) (gO y))
    have K3 := Hid.intro (k_alloc (k_trans K2.out hb3) (gO y))
    have X3 := Hid.intro (newestB w3 (gO y))
    have s3 := hb3.size
    clear hb3 C2 hc1 hf1 hc2 hf2
    obtain ⟨m0, m1, m2⟩ := three_cells ((L3.out.block w.heap.size (by simp)).trans (newestB _ _))
    go_wp2_with fail
    obtain ⟨u3, hu3⟩ : ∃ u3, w3.alloc (gO y) = u3 := ⟨_, rfl⟩
    have t3 : u3.heap.size = w3.heap.size + 1 := by rw [← hu3]; simp
    rw [hu3] at L3 K3 X3 ⊢
    clear hu3 m0 m1 m2
    refine (toGrdGrid_any _ _ _ g.cells hn _ (T0.out _ K3.out)).mono ?_
    rintro e w4 ⟨ac4, cc4, rfl, hC4, hb4⟩
    have K4 := Hid.intro (k_alloc (k_trans K3.out hb4) (.cells #[.int .i64 g.rows, .int .i64 g.cols, .slice ac4 g.cells.length cc4] 37))
    have L4 := Hid.intro (k_alloc (k_trans L3.out hb4) (.cells #[.int .i64 g.rows, .int .i64 g.cols, .slice ac4 g.cells.length cc4] 37))
    have X4 := Hid.intro (box_keptQ (box_keptQ X3.out hb4) (k_alloc (Below.refl _ _) (.cells #[.int .i64 g.rows, .int .i64 g.cols, .slice ac4 g.cells.length cc4] 37)))
    have C4 := Hid.intro ((hC4.base (z' := w.heap.size) (by omega)).kept (k_alloc (Below.refl _ _) (.cells #[.int .i64 g.rows, .int .i64 g.cols, .slice ac4 g.cells.length cc4] 37)))
    have B4 := Hid.intro (newestB w4 (.cells #[.int .i64 g.rows, .int .i64 g.cols, .slice ac4 g.cells.length cc4] 37))
    have s4 := hb4.size
    clear hb4 hC4 X3 L3 K3
    go_wp2_with fail
    obtain ⟨u4, hu4⟩ : ∃ u4, w4.alloc (.cells #[.int .i64 g.rows, .int .i64 g.cols, .slice ac4 g.cells.length cc4] 37) = u4 := ⟨_, rfl⟩
    have t4 : u4.heap.size = w4.heap.size + 1 := by rw [← hu4]; simp
    rw [hu4] at L4 K4 X4 C4 B4 ⊢
    clear hu4
    refine (H2.out _ _ _ C4.out).mono ?_
    rintro e w5 ⟨rfl, hb5⟩
    have K5 := Hid.intro (k_alloc (k_trans K4.out hb5) (gO y))
    have L5 := Hid.intro (k_alloc (k_trans L4.out hb5) (gO y))
    have X5 := Hid.intro (box_keptQ (box_keptQ X4.out hb5) (k_alloc (Below.refl _ _) (gO y)))
    have B5 := Hid.intro (box_keptQ (box_keptQ B4.out hb5) (k_alloc (Below.refl _ _) (gO y)))
    have C5 := Hid.intro ((C4.out.kept hb5).kept (k_alloc (Below.refl _ _) (gO y)))
    have Y5 := Hid.intro (newestB w5 (gO y))
    have s5 := hb5.size
    clear hb5 X4 L4 K4 C4 B4
    obtain ⟨⟨x0, x1, x2, x3, x4⟩, _⟩ := fiveQ X5.out
    obtain ⟨⟨y0, y1, y2, y3, y4⟩, _⟩ := fiveQ Y5.out
    go_wp2_with fail
    obtain ⟨u5, hu5⟩ : ∃ u5, w5.alloc (gO y) = u5 := ⟨_, rfl⟩
    have t5 : u5.heap.size = w5.heap.size + 1 := by rw [← hu5]; simp
    rw [hu5] at L5 K5 C5 B5 x0 x1 x2 x3 x4 y0 y1 y2 y3 y4 ⊢
    clear hu5 X5 Y5
    refine (eqGrdCell_any y _).mono ?_
    rintro e w6 ⟨rfl, hb6⟩
    have K6 := Hid.intro (k_trans K5.out hb6)
    have A6 := Hid.intro (((k_trans L5.out hb6).block w.heap.size (by simp)).trans (newestB _ _))
    have B6 := Hid.intro (box_keptQ B5.out hb6)
    have C6 := Hid.intro (C5.out.kept hb6)
    have s6 := hb6.size
    clear hb6 K5 L5 C5 B5 x0 x1 x2 x3 x4 y0 y1 y2 y3 y4
    obtain ⟨m0, m1, m2⟩ := three_cells A6.out
    obtain ⟨n0, n1, n2⟩ := three_cells B6.out
    go_wp2_with fail
    go_region_with (first
      | (go_at_call 10; refine (toGrdGrid_any _ _ _ g.cells hn _ (T0.out _ (k_drew K6.out))).mono ?_; rintro e w7 ⟨ac7, cc7, rfl, hC7, hb7⟩; have C7 := Hid.intro hC7; have D7 := Hid.intro (C6.out.kept (k_trans (k_drew (Below.refl _ _)) hb7)); have Z7 := Hid.intro (k_trans (k_drew (Below.refl w6.heap.size w6)) hb7); obtain ⟨r0, r1, r2⟩ := three_cells ((Z7.out.block w.heap.size (by omega)).trans A6.out); obtain ⟨q0, q1, q2⟩ := three_cells ((Z7.out.block w4.heap.size (by omega)).trans B6.out); clear hC7 hb7)
      | (go_at_call 13; refine (eqGrdGrid_any _ _ _ _ g.cells _ D7.out C7.out).mono ?_; rintro e w8 ⟨rfl, hb8⟩; have K8 := Hid.intro (k_trans K6.out (k_trans Z7.out hb8)); clear hb8))
    all_goals
      go_wp2
      go_ret
      exact ⟨rfl, K8.out⟩
  · have HL := Hid.intro (leftOf_neg (n := 1048576) (m := g.cells.length) (by omega))
    go_enter Try.func4, Try.ntmps4
    go_wp2_with fail
    refine (szGrdGrid_any _ _ _ g.cells _ (T0.out _ K0.out)).mono ?_
    rw [HL.out]
    rintro e w1 ⟨rfl, hb1⟩
    have K1 := Hid.intro (k_trans K0.out hb1)
    clear hb1
    go_wp2
    go_ret
    exact ⟨rfl, K1.out⟩

set_option linter.unusedVariables false in
set_option maxRecDepth 100000 in
theorem lifted (os : Os) (started : os.Started) (H : Type) (enc : TypeId × Value → H) :
    ReturnsInHanded {} Try.checked os 4 .any (Rows.fnExactQryRangeSpec.pre6 enc Try.prog Try.f4 Rows.fnExactQryRangeRow.domain false) (Rows.fnExactQryRangeSpec.post enc Try.prog Try.f4 false true false false) := by
  refine returnsInHanded_of_change (C := Try.checked) own started (by kernel_rfl) Try.func4
    (ChangeSpec.witness6 (enc := enc) (C := Try.checked) false ⟨#[], #[.agg #[.int .i64 0, .int .i64 0, .slice none 0 0], .int .i64 0, .int .i64 0], []⟩ 8 (by kernel_rfl) (by kernel_rfl) (by kernel_rfl) (by kernel_rfl)) ?_
  intro W base args ds gs before hval0 hW hcnd _
  have hval : ∀ (j : Nat) t v, Try.f4.params[j]? = some t → args[j]? = some v → Value.okWide Try.prog W .any base t v := hval0
  have hW' := hW
  obtain ⟨p, q, hA0, hV, rfl, hfz, hnd⟩ := hW
  have hA : DataW.TrodAll enc Try.prog W 0 (fun _ => true) true Try.f4.params.toList args.toList ds p := hA0
  rw [Try.params4] at hA hval
  obtain ⟨v0, vs0, d0, ds0, p0, q0, hargs, rfl, rfl, h0, r0⟩ := trodAll_cons hA
  obtain ⟨v1, vs1, d1, ds1, p1, q1, rfl, rfl, rfl, h1, r1⟩ := trodAll_cons r0
  obtain ⟨v2, vs2, d2, ds2, p2, q2, rfl, rfl, rfl, h2, r2⟩ := trodAll_cons r1
  obtain ⟨rfl, rfl, rfl⟩ := trodAll_nil r2
  obtain rfl : args = #[v0, v1, v2] := by cases args; simp_all
  obtain ⟨rfl, rfl⟩ := trodVars_none hV
  have k0 := h0
  have lt0 : ∀ x ∈ p0, x.block < W.heap.size := by obtain ⟨m, hm⟩ := k0; exact DataW.trod_lt m _ _ _ hm
  have k1 := h1
  have lt1 : ∀ x ∈ p1, x.block < W.heap.size := by obtain ⟨m, hm⟩ := k1; exact DataW.trod_lt m _ _ _ hm
  have k2 := h2
  have lt2 : ∀ x ∈ p2, x.block < W.heap.size := by obtain ⟨m, hm⟩ := k2; exact DataW.trod_lt m _ _ _ hm
  obtain ⟨cs0, rfl, hsz0⟩ := okWide_struct Try.underlying30 (hval 0 30 v0 rfl rfl)
  obtain ⟨fuel0, hf0⟩ := h0
  obtain ⟨g, ht, hgr, hgc⟩ := openGrdL (by simpa [Value.cells] using hf0)
  obtain ⟨q0, rfl, rfl, rfl, wq0⟩ := open_int Try.underlying3 (hval 1 3 v1 rfl rfl) h1
  obtain ⟨q1, rfl, rfl, rfl, wq1⟩ := open_int Try.underlying3 (hval 2 3 v2 rfl rfl) h2
  clear hA0 hval0
  refine (walk _ g hgr hgc q0 (bounds_i64 wq0) q1 (bounds_i64 wq1) W (by simpa using ht)).mono fun e W' ⟨he, bel⟩ => ?_
  subst he
  exact ⟨_, rfl, _, _, _, [], _, [], hW', trodAll_mk1 (shut_bool Try.underlying4 _), (trodAll_cons_mk (Below.trod laidOut (by kernel_rfl) (of_decide_eq_true (by kernel_rfl)) k0 bel lt0) (trodAll_cons_mk (Below.trod laidOut (by kernel_rfl) (of_decide_eq_true (by kernel_rfl)) k1 bel lt1) (trodAll_cons_mk (Below.trod laidOut (by kernel_rfl) (of_decide_eq_true (by kernel_rfl)) k2 bel lt2) trodAll_mk0))), rfl, bel.frame _, fun h => by cases h⟩

theorem proved : Rows.FnExactQryRangeSaid :=
  OpenClaim.holds_of_wide 4 Try.f4 rfl rfl rfl rfl rfl rfl rfl ⟨rfl, rfl, rfl, rfl, rfl⟩ rfl rfl rfl rfl rfl (by kernel_rfl) Try.func4 (by kernel_rfl)
    (of_decide_eq_true (by kernel_rfl)) (by unfold Func.isWrapper; first | (rw [if_pos (by decide +kernel)]; kernel_rfl) | (rw [if_neg (by decide +kernel)]; exact ⟨rfl, rfl⟩))
    (fun os started H enc _ => lifted os started H enc)
#print axioms proved
end Go.Proofs.Ytggmjiddadjilan.fnExactQryRange
