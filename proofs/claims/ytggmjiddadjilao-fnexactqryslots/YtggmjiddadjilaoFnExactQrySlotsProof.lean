/- PROVED: at every grid the law FnExactQrySlots returns true (the program's QrySlots answers as the model's, and its answer owns its memory) and its arguments read as before; no condition. -/
import Derived.Test.YtggmjiddadjilaoB11
import Derived.Test.YtggmjiddadjilaoB8
import Derived.WalkKit
import Derived.ProofKit
import Derived.OpenShut
import Derived.ShutString
import Derived.ChangeOld
import Derived.Below
import Derived.Lib.SmallJoins
namespace Go.Proofs.Ytggmjiddadjilao.fnExactQrySlots
open Go.ChangeShapes Go.WideShapes Go.ChangeAt Go.RowKit Go.Joins Go.Deep
open Go.ChangeMaps (open_string shut_string)

theorem len_le (g : G) : (looks ⟨g.rows, g.cols, g.cells⟩).length ≤ 90 := by
  cases h : okB ⟨g.rows, g.cols, g.cells⟩ with
  | false => rw [looks_no h]; exact Nat.zero_le _
  | true =>
    rw [looks_ok h]
    have := ok_ran h
    simp only [List.length_map, List.length_range]
    dsimp only at this
    omega
theorem rowS_out {w w' : World} {B lo hi : Nat} {v : Value} {l : List ByteArray} (h : RowS w B v l) (ho : Out lo hi w w') (hB : hi ≤ B) : RowS w' B v l := by
  rcases h with h | ⟨g, cap, cur, hv, hb, hg, r⟩
  · exact .inl h
  · exact .inr ⟨g, cap, cur, hv, hb, (ho.block g (Nat.le_trans hB hb) (Array.getElem?_eq_some_iff.1 hg).1).trans hg, r⟩
theorem three_cells {w : World} {g : Nat} {x0 x1 x2 : Value} {t : TypeId} (h : w.heap[g]? = some (.cells #[x0, x1, x2] t)) :
    w.cell? ⟨g, 0, none⟩ = some x0 ∧ w.cell? ⟨g, 1, none⟩ = some x1 ∧ w.cell? ⟨g, 2, none⟩ = some x2 := ⟨cellB h, cellB h, cellB h⟩
set_option maxRecDepth 100000 in
set_option maxHeartbeats 8000000 in
set_option linter.unusedVariables false in
theorem walk (v : Value) (g : G) (hgr : I64 g.rows) (hgc : I64 g.cols) (w : World) (h : GrdAt w 0 v g) :
    Calls Try.prog 4 #[v] w fun e w' => e = .returned (.bool true) ∧ Below w.heap.size w w' := by
  obtain ⟨vc, rfl, hc⟩ := h
  obtain ⟨ac, cc, rfl, _⟩ := At.form hc
  have K0 := Hid.intro (k_alloc (Below.refl w.heap.size w) (.cells #[.int .i64 g.rows, .int .i64 g.cols, .slice ac g.cells.length cc] 30))
  have C0 := Hid.intro hc
  clear hc
  have T0 : Hid (∀ w', Below w.heap.size w w' → GsAt w' 0 (.slice ac g.cells.length cc) g.cells) := fun w' k => C0.out.kept k
  clear C0
  by_cases hn : g.cells.length ≤ 1048576
  · have hg : ¬ (1048576 : Int) - (g.cells.length : Int) < 0 := by omega
    have HL := Hid.intro (leftOf_pos (n := 1048576) (m := g.cells.length) (by omega))
    have hL : (looks ⟨g.rows, g.cols, g.cells⟩).length ≤ 90 := len_le g
    have H1 := Hid.intro (fun ac cc z W (h : GsAt W z (.slice ac g.cells.length cc) g.cells) => specQrySlots g.rows g.cols ac cc g.cells W h)
    have H2 := Hid.intro (fun ac cc z W (h : GsAt W z (.slice ac g.cells.length cc) g.cells) => implQrySlots g.rows g.cols ac cc g.cells W h)
    generalize looks ⟨g.rows, g.cols, g.cells⟩ = L at hL H1 H2
    have hq0 : ¬ (1 + (L.length : Int)) < 0 := by omega
    have hne : ((1 + (L.length : Int)) != (1 + (L.length : Int))) = false := by simp
    have hk0 : ¬ (1 + 5 * (g.cells.length : Int)) < 0 := by omega
    go_enter Try.func4, Try.ntmps4
    go_wp2_with fail
    refine (szGrdGrid_any _ _ _ g.cells _ (T0.out _ K0.out)).mono ?_
    rw [HL.out]
    rintro e w1 ⟨rfl, hb⟩
    obtain ⟨hc1, hf1⟩ := bcell hb
    have hx1 : w.heap.size < w1.heap.size := by have := hb.size; simp at this; omega
    have K1 := Hid.intro (k_trans K0.out hb)
    have A1 : Hid (w1.heap[w.heap.size]? = some (.cells #[.int .i64 g.rows, .int .i64 g.cols, .slice ac g.cells.length cc] 30)) := Hid.intro ((hb.block w.heap.size (by simp)).trans (newestB _ _))
    clear hb hc1 hf1
    obtain ⟨m0, m1, m2⟩ := three_cells A1.out
    go_wp2_with fail
    refine (toGrdGrid_any _ _ _ g.cells hn _ (T0.out _ K1.out)).mono ?_
    rintro e w2 ⟨ac2, cc2, rfl, hC, hb⟩
    have C2 := Hid.intro hC
    have K2 := Hid.intro (k_trans K1.out hb)
    have A2 := Hid.intro ((hb.block w.heap.size hx1).trans A1.out)
    have s2 := hb.size
    clear hb hC A1 m0 m1 m2
    go_wp2_with fail
    refine (H1.out _ _ _ _ C2.out).mono ?_
    rintro e w3 ⟨v3, rfl, hr, hb⟩
    obtain ⟨a3, c3, rfl⟩ := hr.form
    have R3 := Hid.intro hr
    have K3 := Hid.intro (k_trans K2.out hb)
    have A3 := Hid.intro ((hb.block w.heap.size (by omega)).trans A2.out)
    have s3 := hb.size
    clear hr hb C2 A2
    obtain ⟨m0, m1, m2⟩ := three_cells A3.out
    go_wp2_with fail
    refine (toGrdGrid_own _ _ _ g.cells hn _ (T0.out _ K3.out)).mono ?_
    rintro e w4 ⟨ac4, cc4, rfl, hC, hO, hb⟩
    have C4 := Hid.intro (hC.kept (k_alloc (Below.refl _ _) (.cells #[.int .i64 g.rows, .int .i64 g.cols, .slice ac4 g.cells.length cc4] 36)))
    have O4 := Hid.intro (hO.below (k_alloc (Below.refl _ _) (.cells #[.int .i64 g.rows, .int .i64 g.cols, .slice ac4 g.cells.length cc4] 36)) (Nat.le_refl _))
    have L4 := Hid.intro (k_alloc hb (.cells #[.int .i64 g.rows, .int .i64 g.cols, .slice ac4 g.cells.length cc4] 36))
    have B4 := Hid.intro (newestB w4 (.cells #[.int .i64 g.rows, .int .i64 g.cols, .slice ac4 g.cells.length cc4] 36))
    have s4 := hb.size
    clear hb hC hO m0 m1 m2
    go_wp2_with fail
    obtain ⟨u4, hu4⟩ : ∃ u4, w4.alloc (.cells #[.int .i64 g.rows, .int .i64 g.cols, .slice ac4 g.cells.length cc4] 36) = u4 := ⟨_, rfl⟩
    have t4 : u4.heap.size = w4.heap.size + 1 := by rw [← hu4]; simp
    rw [hu4] at C4 O4 L4 B4 ⊢
    clear hu4
    refine (H2.out _ _ _ _ C4.out).mono ?_
    rintro e w5 ⟨v5, rfl, hr, hb⟩
    obtain ⟨a5, c5, rfl⟩ := hr.form
    have G5 := Hid.intro hr
    have C5 := Hid.intro (C4.out.kept hb)
    have O5 := Hid.intro (O4.out.below hb (by omega))
    have L5 := Hid.intro (k_trans L4.out hb)
    have B5 := Hid.intro ((hb.block w4.heap.size (by omega)).trans B4.out)
    have s5 := hb.size
    clear hr hb C4 O4 L4 B4
    go_wp2_with fail
    refine (eqRowS_any _ _ L hL _ _ _ G5.out (R3.out.below L5.out (Nat.le_refl _))).mono ?_
    rintro e w6 ⟨rfl, n6, e6⟩
    have G6 : Hid (RowS w6 u4.heap.size (.slice a5 L.length c5) L) := by rw [e6]; exact G5.out
    have C6 : Hid (GsAt w6 w3.heap.size (.slice ac4 g.cells.length cc4) g.cells) := by rw [e6]; exact C5.out.kept (k_drewN (Below.refl _ _) n6)
    have O6 : Hid (OwnG w6 w3.heap.size w4.heap.size (.slice ac4 g.cells.length cc4) g.cells.length) := by rw [e6]; exact O5.out
    have L6 : Hid (Below w3.heap.size w3 w6) := by rw [e6]; exact k_drewN L5.out n6
    have B6 : Hid (w6.heap[w4.heap.size]? = some (.cells #[.int .i64 g.rows, .int .i64 g.cols, .slice ac4 g.cells.length cc4] 36)) := by rw [e6]; exact B5.out
    have s6 : w6.heap.size = w5.heap.size := by rw [e6]; rfl
    clear e6 G5 C5 O5 L5 B5
    have K6 := Hid.intro (k_trans K3.out L6.out)
    have A6 := Hid.intro ((L6.out.block w.heap.size (by omega)).trans A3.out)
    obtain ⟨m0, m1, m2⟩ := three_cells A6.out
    obtain ⟨n0, n1, n2⟩ := three_cells B6.out
    go_wp2_with fail
    go_region_with (first
      | (go_at_call 13; refine (toGrdGrid_any _ _ _ g.cells hn _ (T0.out _ (k_drew K6.out))).mono ?_; rintro e w7 ⟨ac7, cc7, rfl, hC7, hb7⟩; have C7 := Hid.intro hC7; have D7 := Hid.intro (C6.out.kept (k_trans (k_drew (Below.refl _ _)) hb7)); have Z7 := Hid.intro (k_trans (k_drew (Below.refl w6.heap.size w6)) hb7); obtain ⟨r0, r1, r2⟩ := three_cells ((Z7.out.block w.heap.size (by omega)).trans A6.out); obtain ⟨q0, q1, q2⟩ := three_cells ((Z7.out.block w4.heap.size (by omega)).trans B6.out); clear hC7 hb7)
      | (go_at_call 16; refine (eqGrdGrid_any _ _ _ _ g.cells _ D7.out C7.out).mono ?_; rintro e w8 ⟨rfl, hb8⟩; have Z8 := Hid.intro (k_trans Z7.out hb8); clear hb8))
    all_goals
      have G8 := Hid.intro (G6.out.below Z8.out (by omega))
      have O8 := Hid.intro (O6.out.below Z8.out (by omega))
      have L8 := Hid.intro (k_trans L6.out Z8.out)
      have B8 := Hid.intro ((Z8.out.block w4.heap.size (by omega)).trans B6.out)
      have s8 := Z8.out.size
      clear C7 D7 Z7 Z8 r0 r1 r2 q0 q1 q2 m0 m1 m2 n0 n1 n2 G6 C6 O6 A6 K6 B6 L6
      obtain ⟨n0, n1, n2⟩ := three_cells B8.out
      go_wp2_with fail
      refine (markGrdGrid_any _ _ _ _ hn _ _ _ (by omega) O8.out).mono ?_
      rintro e w9 ⟨rfl, ho⟩
      have G9 := Hid.intro (rowS_out G8.out ho (by omega))
      have L9 := Hid.intro (L8.out.trans ho.below)
      have s9 := ho.below.size
      clear ho O8 G8 L8 B8 n0 n1 n2
      go_wp2_with fail
      refine (eqRowS_any _ _ L hL _ _ _ G9.out (R3.out.below L9.out (Nat.le_refl _))).mono ?_
      rintro e w10 ⟨rfl, n10, e10⟩
      have G10 : Hid (RowS w10 u4.heap.size (.slice a5 L.length c5) L) := by rw [e10]; exact G9.out
      have L10 : Hid (Below w3.heap.size w3 w10) := by rw [e10]; exact k_drewN L9.out n10
      have s10 : w10.heap.size = w9.heap.size := by rw [e10]; rfl
      clear e10 G9 L9
      go_wp2_with fail
      refine (markStringS_any _ L hL _ _ (by omega) G10.out).mono ?_
      rintro e w11 ⟨rfl, hr, hb⟩
      have G11 := Hid.intro hr
      have L11 := Hid.intro (L10.out.trans (hb.mono (by omega)))
      clear hr hb G10 L10
      go_wp2_with fail
      refine (heldStringS_any _ L hL _ _ G11.out).mono ?_
      rintro e w12 ⟨rfl, hb⟩
      have G12 := Hid.intro (G11.out.below hb (Nat.le_refl _))
      have L12 := Hid.intro (k_trans L11.out hb)
      clear hb G11 L11
      have K12 := Hid.intro (k_trans K3.out L12.out)
      obtain ⟨m0, m1, m2⟩ := three_cells ((L12.out.block w.heap.size (by omega)).trans A3.out)
      go_wp2_with fail
      refine (toGrdGrid_any _ _ _ g.cells hn _ (T0.out _ K12.out)).mono ?_
      rintro e w13 ⟨ac13, cc13, rfl, hC, hb⟩
      have C13 := Hid.intro hC
      have G13 := Hid.intro (G12.out.below hb (Nat.le_refl _))
      have L13 := Hid.intro (k_trans L12.out hb)
      clear hC hb G12 L12 K12 m0 m1 m2
      go_wp2_with fail
      refine (H2.out _ _ _ _ C13.out).mono ?_
      rintro e w14 ⟨v14, rfl, hr, hb⟩
      obtain ⟨a14, c14, rfl⟩ := hr.form
      have V14 := Hid.intro hr
      have G14 := Hid.intro (G13.out.below hb (Nat.le_refl _))
      have L14 := Hid.intro (k_trans L13.out hb)
      clear hr hb G13 L13 C13
      go_wp2_with fail
      refine (eqRowS_any _ _ L hL _ _ _ V14.out (R3.out.below L14.out (Nat.le_refl _))).mono ?_
      rintro e w15 ⟨rfl, n15, e15⟩
      have G15 : Hid (RowS w15 u4.heap.size (.slice a5 L.length c5) (marked L L.length)) := by rw [e15]; exact G14.out
      have L15 : Hid (Below w3.heap.size w3 w15) := by rw [e15]; exact k_drewN L14.out n15
      clear e15 G14 L14 V14
      go_wp2_with fail
      refine (heldStringS_any _ L hL _ _ G15.out).mono ?_
      rintro e w16 ⟨rfl, hb⟩
      have K16 := Hid.intro (k_trans K3.out (k_trans L15.out hb))
      clear hb
      go_wp2
      go_ret
      exact ⟨rfl, K16.out⟩
  · have HL := Hid.intro (leftOf_neg (n := 1048576) (m := g.cells.length) (by omega))
    go_enter Try.func4, Try.ntmps4
    go_wp2_with fail
    refine (szGrdGrid_any _ _ _ g.cells _ (T0.out _ K0.out)).mono ?_
    rw [HL.out]
    rintro e w1 ⟨rfl, hb1⟩
    have K1 := Hid.intro (k_trans K0.out hb1)
    clear hb1
    go_wp2
    go_ret
    exact ⟨rfl, K1.out⟩

set_option linter.unusedVariables false in
set_option maxRecDepth 100000 in
theorem lifted (os : Os) (started : os.Started) (H : Type) (enc : TypeId × Value → H) :
    ReturnsInHanded {} Try.checked os 4 .any (Rows.fnExactQrySlotsSpec.pre6 enc Try.prog Try.f4 Rows.fnExactQrySlotsRow.domain false) (Rows.fnExactQrySlotsSpec.post enc Try.prog Try.f4 false true false false) := by
  refine returnsInHanded_of_change (C := Try.checked) own started (by kernel_rfl) Try.func4
    (ChangeSpec.witness6 (enc := enc) (C := Try.checked) false ⟨#[], #[.agg #[.int .i64 0, .int .i64 0, .slice none 0 0]], []⟩ 8 (by kernel_rfl) (by kernel_rfl) (by kernel_rfl) (by kernel_rfl)) ?_
  intro W base args ds gs before hval0 hW hcnd _
  have hval : ∀ (j : Nat) t v, Try.f4.params[j]? = some t → args[j]? = some v → Value.okWide Try.prog W .any base t v := hval0
  have hW' := hW
  obtain ⟨p, q, hA0, hV, rfl, hfz, hnd⟩ := hW
  have hA : DataW.TrodAll enc Try.prog W 0 (fun _ => true) true Try.f4.params.toList args.toList ds p := hA0
  rw [Try.params4] at hA hval
  obtain ⟨v0, vs0, d0, ds0, p0, q0, hargs, rfl, rfl, h0, r0⟩ := trodAll_cons hA
  obtain ⟨rfl, rfl, rfl⟩ := trodAll_nil r0
  obtain rfl : args = #[v0] := by cases args; simp_all
  obtain ⟨rfl, rfl⟩ := trodVars_none hV
  have k0 := h0
  have lt0 : ∀ x ∈ p0, x.block < W.heap.size := by obtain ⟨m, hm⟩ := k0; exact DataW.trod_lt m _ _ _ hm
  obtain ⟨cs0, rfl, hsz0⟩ := okWide_struct Try.underlying30 (hval 0 30 v0 rfl rfl)
  obtain ⟨fuel0, hf0⟩ := h0
  obtain ⟨g, ht, hgr, hgc⟩ := openGrdL (by simpa [Value.cells] using hf0)
  clear hA0 hval0
  refine (walk _ g hgr hgc W (by simpa using ht)).mono fun e W' ⟨he, bel⟩ => ?_
  subst he
  exact ⟨_, rfl, _, _, _, [], _, [], hW', trodAll_mk1 (shut_bool Try.underlying4 _), (trodAll_cons_mk (Below.trod laidOut (by kernel_rfl) (of_decide_eq_true (by kernel_rfl)) k0 bel lt0) trodAll_mk0), rfl, bel.frame _, fun h => by cases h⟩

theorem proved : Rows.FnExactQrySlotsSaid :=
  OpenClaim.holds_of_wide 4 Try.f4 rfl rfl rfl rfl rfl rfl rfl ⟨rfl, rfl, rfl, rfl, rfl⟩ rfl rfl rfl rfl rfl (by kernel_rfl) Try.func4 (by kernel_rfl)
    (of_decide_eq_true (by kernel_rfl)) (by unfold Func.isWrapper; first | (rw [if_pos (by decide +kernel)]; kernel_rfl) | (rw [if_neg (by decide +kernel)]; exact ⟨rfl, rfl⟩))
    (fun os started H enc _ => lifted os started H enc)
#print axioms proved
end Go.Proofs.Ytggmjiddadjilao.fnExactQrySlots
