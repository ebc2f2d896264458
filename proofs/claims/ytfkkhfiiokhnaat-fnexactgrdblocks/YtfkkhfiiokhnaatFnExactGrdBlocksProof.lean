/- PROVED: at every grid the law FnExactGrdBlocks returns true (the program's GrdBlocks answers as the model's, and its answer owns its memory) and its arguments read as before; no condition. -/
import Derived.Test.YtfkkhfiiokhnaatGrdBlkS
import Derived.Test.YtfkkhfiiokhnaatGrdOwn
import Derived.Test.YtfkkhfiiokhnaatIntEq
import Derived.Test.YtfkkhfiiokhnaatIntMark
import Derived.WalkKit
import Derived.ProofKit
import Derived.OpenShut
import Derived.ShutString
import Derived.ChangeOld
import Derived.Below
import Derived.Lib.SmallJoins
namespace Go.Proofs.Ytfkkhfiiokhnaat.fnExactGrdBlocks
open Go.ChangeShapes Go.WideShapes Go.ChangeAt Go.RowKit Go.Joins Go.Deep
open Go.ChangeMaps (open_string shut_string)

theorem len_le (g : G) : (blocksL ⟨g.rows, g.cols, g.cells⟩).length ≤ 1048576 := by
  cases h : okB ⟨g.rows, g.cols, g.cells⟩ with
  | false => rw [blocksL_no h]; exact Nat.zero_le _
  | true =>
    rw [blocksL_ok h]
    have h2 := h
    simp only [okB, Bool.and_eq_true] at h2
    obtain ⟨h3, h4, _⟩ := bounds_of h2.1
    have := blocksTo_len g.cells g.rows.toNat
    dsimp only
    omega
theorem three_cells {w : World} {g : Nat} {x0 x1 x2 : Value} {t : TypeId} (h : w.heap[g]? = some (.cells #[x0, x1, x2] t)) :
    w.cell? ⟨g, 0, none⟩ = some x0 ∧ w.cell? ⟨g, 1, none⟩ = some x1 ∧ w.cell? ⟨g, 2, none⟩ = some x2 := ⟨cellB h, cellB h, cellB h⟩
set_option maxRecDepth 100000 in
set_option maxHeartbeats 8000000 in
set_option linter.unusedVariables false in
theorem walk (v : Value) (g : G) (hgr : I64 g.rows) (hgc : I64 g.cols) (w : World) (h : GrdAt w 0 v g) :
    Calls Try.prog 5 #[v] w fun e w' => e = .returned (.bool true) ∧ Below w.heap.size w w' := by
  obtain ⟨vc, rfl, hc⟩ := h
  obtain ⟨ac, cc, rfl, _⟩ := At.form hc
  have K0 := Hid.intro (k_alloc (Below.refl w.heap.size w) (.cells #[.int .i64 g.rows, .int .i64 g.cols, .slice ac g.cells.length cc] 24))
  have C0 := Hid.intro hc
  clear hc
  have T0 : Hid (∀ w', Below w.heap.size w w' → GsAt w' 0 (.slice ac g.cells.length cc) g.cells) := fun w' k => C0.out.kept k
  clear C0
  by_cases hn : g.cells.length ≤ 1048576
  · have hg : ¬ (1048576 : Int) - (g.cells.length : Int) < 0 := by omega
    have HL := Hid.intro (leftOf_pos (n := 1048576) (m := g.cells.length) (by omega))
    have hL : (blocksL ⟨g.rows, g.cols, g.cells⟩).length ≤ 1048576 := len_le g
    have H1 := Hid.intro (fun ac cc z W (h : GsAt W z (.slice ac g.cells.length cc) g.cells) => specGrdBlocks g.rows g.cols ac cc g.cells W h)
    have H2 := Hid.intro (fun ac cc z W (h : GsAt W z (.slice ac g.cells.length cc) g.cells) => implGrdBlocks g.rows g.cols ac cc g.cells W h)
    generalize blocksL ⟨g.rows, g.cols, g.cells⟩ = L at hL H1 H2
    have hq0 : ¬ (1 + (L.length : Int)) < 0 := by omega
    have hne : ((1 + (L.length : Int)) != (1 + (L.length : Int))) = false := by simp
    have hk0 : ¬ (1 + 5 * (g.cells.length : Int)) < 0 := by omega
    go_enter Try.func5, Try.ntmps5
    go_wp2_with fail
    refine (szGrdGrid_any _ _ _ g.cells _ (T0.out _ K0.out)).mono ?_
    rw [HL.out]
    rintro e w1 ⟨rfl, hb⟩
    obtain ⟨hc1, hf1⟩ := bcell hb
    have hx1 : w.heap.size < w1.heap.size := by have := hb.size; simp at this; omega
    have K1 := Hid.intro (k_trans K0.out hb)
    have A1 : Hid (w1.heap[w.heap.size]? = some (.cells #[.int .i64 g.rows, .int .i64 g.cols, .slice ac g.cells.length cc] 24)) := Hid.intro ((hb.block w.heap.size (by simp)).trans (newestB _ _))
    clear hb hc1 hf1
    obtain ⟨m0, m1, m2⟩ := three_cells A1.out
    go_wp2_with fail
    refine (toGrdGrid_any _ _ _ g.cells hn _ (T0.out _ K1.out)).mono ?_
    rintro e w2 ⟨ac2, cc2, rfl, hC, hb⟩
    have C2 := Hid.intro hC
    have K2 := Hid.intro (k_trans K1.out hb)
    have A2 := Hid.intro ((hb.block w.heap.size hx1).trans A1.out)
    have s2 := hb.size
    clear hb hC A1 m0 m1 m2
    go_wp2_with fail
    refine (H1.out _ _ _ _ C2.out).mono ?_
    rintro e w3 ⟨v3, rfl, hr, hb⟩
    obtain ⟨a3, c3, rfl⟩ := hr.form
    have R3 := Hid.intro hr
    have K3 := Hid.intro (k_trans K2.out hb)
    have A3 := Hid.intro ((hb.block w.heap.size (by omega)).trans A2.out)
    have s3 := hb.size
    clear hr hb C2 A2
    obtain ⟨m0, m1, m2⟩ := three_cells A3.out
    go_wp2_with fail
    refine (toGrdGrid_own _ _ _ g.cells hn _ (T0.out _ K3.out)).mono ?_
    rintro e w4 ⟨ac4, cc4, rfl, hC, hO, hb⟩
    have C4 := Hid.intro (hC.kept (k_alloc (Below.refl _ _) (.cells #[.int .i64 g.rows, .int .i64 g.cols, .slice ac4 g.cells.length cc4] 29)))
    have O4 := Hid.intro (hO.below (k_alloc (Below.refl _ _) (.cells #[.int .i64 g.rows, .int .i64 g.cols, .slice ac4 g.cells.length cc4] 29)) (Nat.le_refl _))
    have K4 := Hid.intro (k_alloc (k_trans K3.out hb) (.cells #[.int .i64 g.rows, .int .i64 g.cols, .slice ac4 g.cells.length cc4] 29))
    have A4 := Hid.intro ((Below.heap_alloc w4 (.cells #[.int .i64 g.rows, .int .i64 g.cols, .slice ac4 g.cells.length cc4] 29) w.heap.size (by have := hb.size; omega)).trans ((hb.block w.heap.size (by omega)).trans A3.out))
    have B4 := Hid.intro (newestB w4 (.cells #[.int .i64 g.rows, .int .i64 g.cols, .slice ac4 g.cells.length cc4] 29))
    have R4 := Hid.intro ((R3.out.below hb (Nat.le_refl _)).below (k_alloc (Below.refl _ _) (.cells #[.int .i64 g.rows, .int .i64 g.cols, .slice ac4 g.cells.length cc4] 29)) hb.size)
    have s4 := hb.size
    clear hb hC hO A3 R3 m0 m1 m2
    go_wp2_with fail
    obtain ⟨u4, hu4⟩ : ∃ u4, w4.alloc (.cells #[.int .i64 g.rows, .int .i64 g.cols, .slice ac4 g.cells.length cc4] 29) = u4 := ⟨_, rfl⟩
    have t4 : u4.heap.size = w4.heap.size + 1 := by rw [← hu4]; simp
    rw [hu4] at C4 O4 K4 A4 B4 R4 ⊢
    clear hu4
    refine (H2.out _ _ _ _ C4.out).mono ?_
    rintro e w5 ⟨v5, rfl, hr, hb⟩
    obtain ⟨a5, c5, rfl⟩ := hr.form
    have G5 := Hid.intro hr
    have C5 := Hid.intro (C4.out.kept hb)
    have O5 := Hid.intro (O4.out.below hb (by omega))
    have K5 := Hid.intro (k_trans K4.out hb)
    have A5 := Hid.intro ((hb.block w.heap.size (by omega)).trans A4.out)
    have B5 := Hid.intro ((hb.block w4.heap.size (by omega)).trans B4.out)
    have R5 := Hid.intro (R4.out.below hb (by omega))
    have s5 := hb.size
    clear hr hb C4 O4 A4 B4 R4
    go_wp2_with fail
    refine (eqIntS_any _ _ L _ G5.out.at R5.out.at).mono ?_
    rintro e w6 ⟨rfl, n6, e6⟩
    have G6 : Hid (RowI w6 u4.heap.size w5.heap.size (.slice a5 L.length c5) L) := by rw [e6]; exact G5.out
    have C6 : Hid (GsAt w6 w3.heap.size (.slice ac4 g.cells.length cc4) g.cells) := by rw [e6]; exact C5.out.kept (k_drewN (Below.refl _ _) n6)
    have O6 : Hid (OwnG w6 w3.heap.size w4.heap.size (.slice ac4 g.cells.length cc4) g.cells.length) := by rw [e6]; exact O5.out
    have K6 : Hid (Below w.heap.size w w6) := by rw [e6]; exact k_drewN K5.out n6
    have A6 : Hid (w6.heap[w.heap.size]? = some (.cells #[.int .i64 g.rows, .int .i64 g.cols, .slice ac g.cells.length cc] 24)) := by rw [e6]; exact A5.out
    have B6 : Hid (w6.heap[w4.heap.size]? = some (.cells #[.int .i64 g.rows, .int .i64 g.cols, .slice ac4 g.cells.length cc4] 29)) := by rw [e6]; exact B5.out
    have R6 : Hid (RowI w6 w2.heap.size w3.heap.size (.slice a3 L.length c3) L) := by rw [e6]; exact R5.out
    have s6 : w6.heap.size = w5.heap.size := by rw [e6]; rfl
    clear e6 G5 C5 O5 A5 B5 R5
    obtain ⟨m0, m1, m2⟩ := three_cells A6.out
    obtain ⟨n0, n1, n2⟩ := three_cells B6.out
    go_wp2_with fail
    go_region_with (first
      | (go_at_call 9; refine (toGrdGrid_any _ _ _ g.cells hn _ (T0.out _ (k_drew K6.out))).mono ?_; rintro e w7 ⟨ac7, cc7, rfl, hC7, hb7⟩; have C7 := Hid.intro hC7; have D7 := Hid.intro (C6.out.kept (k_trans (k_drew (Below.refl _ _)) hb7)); have Z7 := Hid.intro (k_trans (k_drew (Below.refl w6.heap.size w6)) hb7); obtain ⟨r0, r1, r2⟩ := three_cells ((Z7.out.block w.heap.size (by omega)).trans A6.out); obtain ⟨q0, q1, q2⟩ := three_cells ((Z7.out.block w4.heap.size (by omega)).trans B6.out); clear hC7 hb7)
      | (go_at_call 11; refine (eqGrdGrid_any _ _ _ _ g.cells _ D7.out C7.out).mono ?_; rintro e w8 ⟨rfl, hb8⟩; have Z8 := Hid.intro (k_trans Z7.out hb8); clear hb8))
    all_goals
      have G8 := Hid.intro (G6.out.below Z8.out (by omega))
      have O8 := Hid.intro (O6.out.below Z8.out (by omega))
      have K8 := Hid.intro (k_trans K6.out Z8.out)
      have A8 := Hid.intro ((Z8.out.block w.heap.size (by omega)).trans A6.out)
      have B8 := Hid.intro ((Z8.out.block w4.heap.size (by omega)).trans B6.out)
      have R8 := Hid.intro (R6.out.below Z8.out (by omega))
      have s8 := Z8.out.size
      clear C7 D7 Z7 Z8 r0 r1 r2 q0 q1 q2 m0 m1 m2 n0 n1 n2 G6 C6 O6 A6 B6 R6
      obtain ⟨n0, n1, n2⟩ := three_cells B8.out
      go_wp2_with fail
      refine (markGrdGrid_any _ _ _ _ hn _ _ _ (by omega) O8.out).mono ?_
      rintro e w9 ⟨rfl, ho⟩
      have G9 := Hid.intro (G8.out.out ho (.inr (by omega)))
      have R9 := Hid.intro (R8.out.out ho (.inl (Nat.le_refl _)))
      have K9 := Hid.intro (K8.out.trans (ho.below.mono (by omega)))
      have A9 := Hid.intro ((ho.below.block w.heap.size (by omega)).trans A8.out)
      have s9 := ho.below.size
      clear ho O8 G8 R8 A8 B8 n0 n1 n2
      go_wp2_with fail
      refine (eqIntS_any _ _ L _ G9.out.at R9.out.at).mono ?_
      rintro e w10 ⟨rfl, n10, e10⟩
      have G10 : Hid (RowI w10 u4.heap.size w5.heap.size (.slice a5 L.length c5) L) := by rw [e10]; exact G9.out
      have R10 : Hid (RowI w10 w2.heap.size w3.heap.size (.slice a3 L.length c3) L) := by rw [e10]; exact R9.out
      have K10 : Hid (Below w.heap.size w w10) := by rw [e10]; exact k_drewN K9.out n10
      have A10 : Hid (w10.heap[w.heap.size]? = some (.cells #[.int .i64 g.rows, .int .i64 g.cols, .slice ac g.cells.length cc] 24)) := by rw [e10]; exact A9.out
      have s10 : w10.heap.size = w9.heap.size := by rw [e10]; rfl
      clear e10 G9 R9 A9
      go_wp2_with fail
      refine (markIntS_any _ L hL _ _ _ G10.out).mono ?_
      rintro e w11 ⟨rfl, hr, ho⟩
      have G11 := Hid.intro hr
      have R11 := Hid.intro (R10.out.out ho (.inl (by omega)))
      have K11 := Hid.intro (K10.out.trans (ho.below.mono (by omega)))
      have A11 := Hid.intro ((ho.below.block w.heap.size (by omega)).trans A10.out)
      have s11 := ho.below.size
      clear hr ho G10 R10 A10
      go_wp2_with fail
      refine (heldIntS_any _ L hL _ _ _ G11.out).mono ?_
      rintro e w12 ⟨rfl, n12, e12⟩
      have G12 : Hid (RowI w12 u4.heap.size w5.heap.size (.slice a5 L.length c5) (markedI L L.length)) := by rw [e12]; exact G11.out
      have R12 : Hid (RowI w12 w2.heap.size w3.heap.size (.slice a3 L.length c3) L) := by rw [e12]; exact R11.out
      have K12 : Hid (Below w.heap.size w w12) := by rw [e12]; exact k_drewN K11.out n12
      have A12 : Hid (w12.heap[w.heap.size]? = some (.cells #[.int .i64 g.rows, .int .i64 g.cols, .slice ac g.cells.length cc] 24)) := by rw [e12]; exact A11.out
      have s12 : w12.heap.size = w11.heap.size := by rw [e12]; rfl
      clear e12 G11 R11 A11
      obtain ⟨m0, m1, m2⟩ := three_cells A12.out
      go_wp2_with fail
      refine (toGrdGrid_any _ _ _ g.cells hn _ (T0.out _ K12.out)).mono ?_
      rintro e w13 ⟨ac13, cc13, rfl, hC, hb⟩
      have C13 := Hid.intro hC
      have G13 := Hid.intro (G12.out.below hb (by omega))
      have R13 := Hid.intro (R12.out.below hb (by omega))
      have K13 := Hid.intro (k_trans K12.out hb)
      have s13 := hb.size
      clear hC hb G12 R12 A12 m0 m1 m2
      go_wp2_with fail
      refine (H2.out _ _ _ _ C13.out).mono ?_
      rintro e w14 ⟨v14, rfl, hr, hb⟩
      obtain ⟨a14, c14, rfl⟩ := hr.form
      have V14 := Hid.intro hr.at
      have G14 := Hid.intro (G13.out.below hb (by omega))
      have R14 := Hid.intro (R13.out.below hb (by omega))
      have K14 := Hid.intro (k_trans K13.out hb)
      clear hr hb G13 R13 C13
      go_wp2_with fail
      refine (eqIntS_any _ _ L _ V14.out R14.out.at).mono ?_
      rintro e w15 ⟨rfl, n15, e15⟩
      have G15 : Hid (RowI w15 u4.heap.size w5.heap.size (.slice a5 L.length c5) (markedI L L.length)) := by rw [e15]; exact G14.out
      have K15 : Hid (Below w.heap.size w w15) := by rw [e15]; exact k_drewN K14.out n15
      clear e15 G14 R14 V14
      go_wp2_with fail
      refine (heldIntS_any _ L hL _ _ _ G15.out).mono ?_
      rintro e w16 ⟨rfl, n16, e16⟩
      have K16 : Hid (Below w.heap.size w w16) := by rw [e16]; exact k_drewN K15.out n16
      clear e16
      go_wp2
      go_ret
      exact ⟨rfl, K16.out⟩
  · have HL := Hid.intro (leftOf_neg (n := 1048576) (m := g.cells.length) (by omega))
    go_enter Try.func5, Try.ntmps5
    go_wp2_with fail
    refine (szGrdGrid_any _ _ _ g.cells _ (T0.out _ K0.out)).mono ?_
    rw [HL.out]
    rintro e w1 ⟨rfl, hb1⟩
    have K1 := Hid.intro (k_trans K0.out hb1)
    clear hb1
    go_wp2
    go_ret
    exact ⟨rfl, K1.out⟩

set_option linter.unusedVariables false in
set_option maxRecDepth 100000 in
theorem lifted (os : Os) (started : os.Started) (H : Type) (enc : TypeId × Value → H) :
    ReturnsInHanded {} Try.checked os 5 .any (Rows.fnExactGrdBlocksSpec.pre6 enc Try.prog Try.f5 Rows.fnExactGrdBlocksRow.domain false) (Rows.fnExactGrdBlocksSpec.post enc Try.prog Try.f5 false true false false) := by
  refine returnsInHanded_of_change (C := Try.checked) own started (by kernel_rfl) Try.func5
    (ChangeSpec.witness6 (enc := enc) (C := Try.checked) false ⟨#[], #[.agg #[.int .i64 0, .int .i64 0, .slice none 0 0]], []⟩ 8 (by kernel_rfl) (by kernel_rfl) (by kernel_rfl) (by kernel_rfl)) ?_
  intro W base args ds gs before hval0 hW hcnd _
  have hval : ∀ (j : Nat) t v, Try.f5.params[j]? = some t → args[j]? = some v → Value.okWide Try.prog W .any base t v := hval0
  have hW' := hW
  obtain ⟨p, q, hA0, hV, rfl, hfz, hnd⟩ := hW
  have hA : DataW.TrodAll enc Try.prog W 0 (fun _ => true) true Try.f5.params.toList args.toList ds p := hA0
  rw [Try.params5] at hA hval
  obtain ⟨v0, vs0, d0, ds0, p0, q0, hargs, rfl, rfl, h0, r0⟩ := trodAll_cons hA
  obtain ⟨rfl, rfl, rfl⟩ := trodAll_nil r0
  obtain rfl : args = #[v0] := by cases args; simp_all
  obtain ⟨rfl, rfl⟩ := trodVars_none hV
  have k0 := h0
  have lt0 : ∀ x ∈ p0, x.block < W.heap.size := by obtain ⟨m, hm⟩ := k0; exact DataW.trod_lt m _ _ _ hm
  obtain ⟨cs0, rfl, hsz0⟩ := okWide_struct Try.underlying24 (hval 0 24 v0 rfl rfl)
  obtain ⟨fuel0, hf0⟩ := h0
  obtain ⟨g, ht, hgr, hgc⟩ := openGrdL (by simpa [Value.cells] using hf0)
  clear hA0 hval0
  refine (walk _ g hgr hgc W (by simpa using ht)).mono fun e W' ⟨he, bel⟩ => ?_
  subst he
  exact ⟨_, rfl, _, _, _, [], _, [], hW', trodAll_mk1 (shut_bool Try.underlying4 _), (trodAll_cons_mk (Below.trod laidOut (by kernel_rfl) (of_decide_eq_true (by kernel_rfl)) k0 bel lt0) trodAll_mk0), rfl, bel.frame _, fun h => by cases h⟩

theorem proved : Rows.FnExactGrdBlocksSaid :=
  OpenClaim.holds_of_wide 5 Try.f5 rfl rfl rfl rfl rfl rfl rfl ⟨rfl, rfl, rfl, rfl, rfl⟩ rfl rfl rfl rfl rfl (by kernel_rfl) Try.func5 (by kernel_rfl)
    (of_decide_eq_true (by kernel_rfl)) (by unfold Func.isWrapper; first | (rw [if_pos (by decide +kernel)]; kernel_rfl) | (rw [if_neg (by decide +kernel)]; exact ⟨rfl, rfl⟩))
    (fun os started H enc _ => lifted os started H enc)
#print axioms proved
end Go.Proofs.Ytfkkhfiiokhnaat.fnExactGrdBlocks
