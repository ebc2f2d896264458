/- PROVED: at every grid the law FnExactGrdEmpty returns true (the program's GrdEmpty answers as the model's, and leaves its argument as it was) and its arguments read as before; no condition. -/
import Derived.Test.YtfkfgmfahoeaoatGrdEmp
import Derived.WalkKit
import Derived.ProofKit
import Derived.OpenShut
import Derived.ShutString
import Derived.ChangeOld
import Derived.Below
import Derived.Lib.SmallJoins
namespace Go.Proofs.Ytfkfgmfahoeaoat.fnExactGrdEmpty
open Go.ChangeShapes Go.WideShapes Go.ChangeAt Go.RowKit Go.Joins Go.Deep
open Go.ChangeMaps (open_string shut_string)

theorem three_cells {w : World} {g : Nat} {x0 x1 x2 : Value} {t : TypeId} (h : w.heap[g]? = some (.cells #[x0, x1, x2] t)) :
    w.cell? ⟨g, 0, none⟩ = some x0 ∧ w.cell? ⟨g, 1, none⟩ = some x1 ∧ w.cell? ⟨g, 2, none⟩ = some x2 := ⟨cellB h, cellB h, cellB h⟩
set_option maxRecDepth 100000 in
set_option maxHeartbeats 2000000 in
set_option linter.unusedVariables false in
theorem walk (v : Value) (g : G) (hgr : I64 g.rows) (hgc : I64 g.cols) (w : World) (h : GrdAt w 0 v g) :
    Calls Try.prog 4 #[v] w fun e w' => e = .returned (.bool true) ∧ Below w.heap.size w w' := by
  obtain ⟨vc, rfl, hc⟩ := h
  obtain ⟨ac, cc, rfl, _⟩ := At.form hc
  have K0 := Hid.intro (k_alloc (Below.refl w.heap.size w) (.cells #[.int .i64 g.rows, .int .i64 g.cols, .slice ac g.cells.length cc] 24))
  have C0 := Hid.intro hc
  clear hc
  have T0 : Hid (∀ w', Below w.heap.size w w' → GsAt w' 0 (.slice ac g.cells.length cc) g.cells) := fun w' k => C0.out.kept k
  clear C0
  by_cases hn : g.cells.length ≤ 1048576
  · have hg : ¬ (1048576 : Int) - (g.cells.length : Int) < 0 := by omega
    have HL := Hid.intro (leftOf_pos (n := 1048576) (m := g.cells.length) (by omega))
    go_enter Try.func4, Try.ntmps4
    go_wp2_with fail
    refine (szGrdGrid_any _ _ _ g.cells _ (T0.out _ K0.out)).mono ?_
    rw [HL.out]
    rintro e w1 ⟨rfl, hb1⟩
    obtain ⟨hc1, hf1⟩ := bcell hb1
    have hx1 : w.heap.size < w1.heap.size := by have := hb1.size; simp at this; omega
    have K1 := Hid.intro (k_trans K0.out hb1)
    have L1 := Hid.intro hb1
    clear hb1
    go_wp2_with fail
    refine (toGrdGrid_any _ _ _ g.cells hn _ (T0.out _ K1.out)).mono ?_
    rintro e w2 ⟨ac2, cc2, rfl, hC2, hb2⟩
    obtain ⟨hc2, hf2⟩ := bcell hb2
    have hx2 : w.heap.size < w2.heap.size := by have := hb2.size; omega
    have K2 := Hid.intro (k_trans K1.out hb2)
    have L2 := Hid.intro (k_trans L1.out hb2)
    have C2 := Hid.intro hC2
    clear hb2 hC2
    go_wp2_with fail
    refine (specGrdEmpty _ _ ac2 cc2 g.cells _ C2.out).mono ?_
    rintro e w3 ⟨rfl, hb3⟩
    obtain ⟨hc3, hf3⟩ := bcell hb3
    have hx3 : w.heap.size < w3.heap.size := by have := hb3.size; omega
    have K3 := Hid.intro (k_trans K2.out hb3)
    have L3 := Hid.intro (k_trans L2.out hb3)
    clear hb3 C2
    go_wp2_with fail
    refine (toGrdGrid_any _ _ _ g.cells hn _ (T0.out _ K3.out)).mono ?_
    rintro e w4 ⟨ac4, cc4, rfl, hC4, hb4⟩
    obtain ⟨hc4, hf4⟩ := bcell hb4
    have hx4 : w.heap.size < w4.heap.size := by have := hb4.size; omega
    have K4 := Hid.intro (k_trans K3.out hb4)
    have L4 := Hid.intro (k_trans L3.out hb4)
    have C4 := Hid.intro (hC4.kept (k_alloc (Below.refl _ _) (.cells #[.int .i64 g.rows, .int .i64 g.cols, .slice ac4 g.cells.length cc4] 29)))
    clear hb4 hC4
    go_wp2_with fail
    refine (implGrdEmpty _ _ ac4 cc4 g.cells _ C4.out).mono ?_
    rintro e w5 ⟨rfl, hb5⟩
    obtain ⟨hc5, hf5⟩ := bcell hb5
    have hy5 : w4.heap.size < w5.heap.size := by have := hb5.size; simp at this; omega
    have hx5 : w.heap.size < w5.heap.size := by omega
    have K5 := Hid.intro (k_trans (k_alloc K4.out _) hb5)
    have L5 := Hid.intro (k_trans (k_alloc L4.out _) hb5)
    have A5 := Hid.intro ((L5.out.block w.heap.size (by simp)).trans (newestB _ _))
    have B5 := Hid.intro ((hb5.block w4.heap.size (by simp)).trans (newestB _ _))
    obtain ⟨m0, m1, m2⟩ := three_cells A5.out
    obtain ⟨n0, n1, n2⟩ := three_cells B5.out
    have C5 := Hid.intro (C4.out.kept hb5)
    have hneq : (emptyOf ⟨g.rows, g.cols, g.cells⟩ != emptyOf ⟨g.rows, g.cols, g.cells⟩) = false := by simp
    clear hb5 C4 hc1 hf1 hc2 hf2 hc3 hf3 hc4 hf4 hc5 hf5
    go_wp2_with fail
    go_region_with (first
      | (go_at_call 9; refine (toGrdGrid_any _ _ _ g.cells hn _ (T0.out _ (k_drew K5.out))).mono ?_; rintro e w6 ⟨ac6, cc6, rfl, hC6, hb6⟩; have K6 := Hid.intro (k_trans (k_drew K5.out) hb6); have C6 := Hid.intro hC6; have D6 := Hid.intro (C5.out.kept (k_trans (k_drew (Below.refl _ _)) hb6)); have A6 := ((k_trans (k_drew L5.out) hb6).block w.heap.size (by simp)).trans (newestB _ _); have B6 := (hb6.block w4.heap.size hy5).trans B5.out; obtain ⟨r0, r1, r2⟩ := three_cells A6; obtain ⟨s0, s1, s2⟩ := three_cells B6; clear hb6 hC6 A6 B6)
      | (go_at_call 11; refine (eqGrdGrid_any _ _ _ _ g.cells _ D6.out C6.out).mono ?_; rintro e w7 ⟨rfl, hb7⟩; have K7 := Hid.intro (k_trans K6.out hb7); clear hb7))
    all_goals
      go_wp2
      go_ret
      exact ⟨rfl, K7.out⟩
  · have HL := Hid.intro (leftOf_neg (n := 1048576) (m := g.cells.length) (by omega))
    go_enter Try.func4, Try.ntmps4
    go_wp2_with fail
    refine (szGrdGrid_any _ _ _ g.cells _ (T0.out _ K0.out)).mono ?_
    rw [HL.out]
    rintro e w1 ⟨rfl, hb1⟩
    have K1 := Hid.intro (k_trans K0.out hb1)
    clear hb1
    go_wp2
    go_ret
    exact ⟨rfl, K1.out⟩

set_option linter.unusedVariables false in
set_option maxRecDepth 100000 in
theorem lifted (os : Os) (started : os.Started) (H : Type) (enc : TypeId × Value → H) :
    ReturnsInHanded {} Try.checked os 4 .any (Rows.fnExactGrdEmptySpec.pre6 enc Try.prog Try.f4 Rows.fnExactGrdEmptyRow.domain false) (Rows.fnExactGrdEmptySpec.post enc Try.prog Try.f4 false true false false) := by
  refine returnsInHanded_of_change (C := Try.checked) own started (by kernel_rfl) Try.func4
    (ChangeSpec.witness6 (enc := enc) (C := Try.checked) false ⟨#[], #[.agg #[.int .i64 0, .int .i64 0, .slice none 0 0]], []⟩ 8 (by kernel_rfl) (by kernel_rfl) (by kernel_rfl) (by kernel_rfl)) ?_
  intro W base args ds gs before hval0 hW hcnd _
  have hval : ∀ (j : Nat) t v, Try.f4.params[j]? = some t → args[j]? = some v → Value.okWide Try.prog W .any base t v := hval0
  have hW' := hW
  obtain ⟨p, q, hA0, hV, rfl, hfz, hnd⟩ := hW
  have hA : DataW.TrodAll enc Try.prog W 0 (fun _ => true) true Try.f4.params.toList args.toList ds p := hA0
  rw [Try.params4] at hA hval
  obtain ⟨v0, vs0, d0, ds0, p0, q0, hargs, rfl, rfl, h0, r0⟩ := trodAll_cons hA
  obtain ⟨rfl, rfl, rfl⟩ := trodAll_nil r0
  obtain rfl : args = #[v0] := by cases args; simp_all
  obtain ⟨rfl, rfl⟩ := trodVars_none hV
  have k0 := h0
  have lt0 : ∀ x ∈ p0, x.block < W.heap.size := by obtain ⟨m, hm⟩ := k0; exact DataW.trod_lt m _ _ _ hm
  obtain ⟨cs0, rfl, hsz0⟩ := okWide_struct Try.underlying24 (hval 0 24 v0 rfl rfl)
  obtain ⟨fuel0, hf0⟩ := h0
  obtain ⟨g, ht, hgr, hgc⟩ := openGrdL (by simpa [Value.cells] using hf0)
  clear hA0 hval0
  refine (walk _ g hgr hgc W (by simpa using ht)).mono fun e W' ⟨he, bel⟩ => ?_
  subst he
  exact ⟨_, rfl, _, _, _, [], _, [], hW', trodAll_mk1 (shut_bool Try.underlying4 _), (trodAll_cons_mk (Below.trod laidOut (by kernel_rfl) (of_decide_eq_true (by kernel_rfl)) k0 bel lt0) trodAll_mk0), rfl, bel.frame _, fun h => by cases h⟩

theorem proved : Rows.FnExactGrdEmptySaid :=
  OpenClaim.holds_of_wide 4 Try.f4 rfl rfl rfl rfl rfl rfl rfl ⟨rfl, rfl, rfl, rfl, rfl⟩ rfl rfl rfl rfl rfl (by kernel_rfl) Try.func4 (by kernel_rfl)
    (of_decide_eq_true (by kernel_rfl)) (by unfold Func.isWrapper; first | (rw [if_pos (by decide +kernel)]; kernel_rfl) | (rw [if_neg (by decide +kernel)]; exact ⟨rfl, rfl⟩))
    (fun os started H enc _ => lifted os started H enc)
#print axioms proved
end Go.Proofs.Ytfkfgmfahoeaoat.fnExactGrdEmpty
