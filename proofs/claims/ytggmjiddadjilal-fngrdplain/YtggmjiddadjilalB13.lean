/-
  PROVED HERE: what the model's TblOk answers at a table that lies in memory: the Bool 'tblB'; nothing that was in memory is turned.
-/
import Derived.Test.YtggmjiddadjilalB7
import Derived.Test.YtggmjiddadjilalB12
namespace Go.Proofs.Ytggmjiddadjilal
open Go.RowKit

theorem colsB_long {ps : List (Int × Int)} (h : ¬ ps.length ≤ 8) : colsB ps = false := by simp [colsB, h]
theorem rowB_long {r : R} (h : ¬ r.cells.length ≤ 5) : rowB r = false := by simp [rowB, h]
theorem partsB_a {n : Nat} {hd ft : Int} (h : inB hd 0 n = false) : partsB n hd ft = false := by rw [partsB, h]; rfl
theorem partsB_b {n : Nat} {hd ft : Int} (h : inB ft 0 (n - hd) = false) : partsB n hd ft = false := by rw [partsB, h, Bool.and_false]
theorem partsB_t {n : Nat} {hd ft : Int} (h : inB hd 0 n = true) (h' : inB ft 0 (n - hd) = true) : partsB n hd ft = true := by rw [partsB, h, h']; rfl
theorem tblB_rows {t : T} (h : t.rows.all rowB = false) : tblB t = false := by simp only [tblB, h, Bool.and_false]
theorem tblB_cols {t : T} (h : colsB t.cols = false) : tblB t = false := by simp only [tblB, h, Bool.and_false, Bool.false_and]

set_option maxRecDepth 100000 in
set_option maxHeartbeats 4000000 in
theorem specTblOk (ac ar : Option Addr) (cc cr : Nat) (t : T) (w : World) {z : Nat} (hc : ColsAt w z (.slice ac t.cols.length cc) t.cols) (hr : RowsAt w z (.slice ar t.rows.length cr) t.rows) :
    Calls Try.prog 21 #[.agg #[.slice ac t.cols.length cc, .int .i64 t.head, .int .i64 t.foot, .slice ar t.rows.length cr, .int .i64 t.gap]] w fun e w' => e = .returned (.bool (tblB t)) ∧ Below w.heap.size w w' := by
  have HC := Hid.intro hc
  have HR := Hid.intro hr
  clear hc hr
  have K0 := Hid.intro (k_alloc (Below.refl w.heap.size w) (.cells #[.slice ac t.cols.length cc, .int .i64 t.head, .int .i64 t.foot, .slice ar t.rows.length cr, .int .i64 t.gap] 37))
  cases h0 : inB t.rows.length 1 8
  · skip
    have HF : Hid (tblB t = false) := Hid.intro (by rw [tblB, h0]; rfl)
    go_enter Try.func21, Try.ntmps21
    go_wp2_with (go_at_call 33; refine (l1In_any _ _ _ _).mono ?_; rintro e w' ⟨rfl, rfl⟩)
    go_ret
    exact ⟨retB HF.out.symm, k_alloc (Below.refl _ _) _⟩
  have hN : 1 ≤ (t.rows.length : Int) ∧ (t.rows.length : Int) ≤ 8 := of_decide_eq_true h0
  obtain ⟨hN1, hN2⟩ := hN
  by_cases c8 : (8 : Int) < (t.cols.length : Int)
  · skip
    have HF : Hid (tblB t = false) := Hid.intro (tblB_cols (colsB_long (by omega)))
    go_enter Try.func21, Try.ntmps21
    go_wp2_with (go_at_call 33; refine (l1In_any _ _ _ _).mono ?_; rintro e w' ⟨rfl, rfl⟩)
    go_ret
    exact ⟨retB HF.out.symm, k_alloc (Below.refl _ _) _⟩
  have c8' : t.cols.length ≤ 8 := by omega
  cases h1 : inB t.head 0 t.rows.length
  · skip
    have HF : Hid (tblB t = false) := Hid.intro (by simp only [tblB, partsB_a h1, Bool.false_and, Bool.and_false])
    go_enter Try.func21, Try.ntmps21
    go_wp2_with (go_at_call 33; refine (l1In_any _ _ _ _).mono ?_; rintro e w' ⟨rfl, rfl⟩)
    go_ret
    exact ⟨retB HF.out.symm, k_alloc (Below.refl _ _) _⟩
  have hH : 0 ≤ t.head ∧ t.head ≤ t.rows.length := of_decide_eq_true h1
  obtain ⟨hH1, hH2⟩ := hH
  cases h2 : inB t.foot 0 (t.rows.length - t.head)
  · skip
    have HF : Hid (tblB t = false) := Hid.intro (by simp only [tblB, partsB_b h2, Bool.false_and, Bool.and_false])
    go_enter Try.func21, Try.ntmps21
    go_wp2_with (go_at_call 33; refine (l1In_any _ _ _ _).mono ?_; rintro e w' ⟨rfl, rfl⟩)
    go_ret
    exact ⟨retB HF.out.symm, k_alloc (Below.refl _ _) _⟩
  cases h3 : inB t.gap 0 3
  · skip
    have HF : Hid (tblB t = false) := Hid.intro (by simp only [tblB, h3, Bool.false_and, Bool.and_false])
    go_enter Try.func21, Try.ntmps21
    go_wp2_with (go_at_call 33; refine (l1In_any _ _ _ _).mono ?_; rintro e w' ⟨rfl, rfl⟩)
    go_ret
    exact ⟨retB HF.out.symm, k_alloc (Below.refl _ _) _⟩
  have HT : Hid (tblB t = (colsB t.cols && t.rows.all rowB)) := Hid.intro (by rw [tblB, h0, partsB_t h1 h2, h3]; rfl)
  go_enter Try.func21, Try.ntmps21
  go_wp2_with (go_at_call 33; refine (l1In_any _ _ _ _).mono ?_; rintro e w' ⟨rfl, rfl⟩)
  clear h0 h1 h2 h3
  go_loopw [3] (fun i W => ∃ k : Nat, k ≤ t.cols.length ∧ i = .int .i64 k ∧ Hid (∀ j, j < k → (fun p : Int × Int => colB p.1 p.2) (t.cols.getD j (0, 0)) = true) ∧ Hid (Below (w.alloc (.cells #[.slice ac t.cols.length cc, .int .i64 t.head, .int .i64 t.foot, .slice ar t.rows.length cr, .int .i64 t.gap] 37)).heap.size (w.alloc (.cells #[.slice ac t.cols.length cc, .int .i64 t.head, .int .i64 t.foot, .slice ar t.rows.length cr, .int .i64 t.gap] 37)) W)) (fun i _ => t.cols.length - (intOf i).toNat)
  case atStart => exact ⟨0, Nat.zero_le _, rfl, fun j hj => absurd hj (Nat.not_lt_zero _), Below.refl _ _⟩
  case round =>
    obtain ⟨k, hk, rfl, HA, HL⟩ := hrel
    obtain ⟨m0, m1, m2, m3, m4⟩ := fiveO ((HL.out.block w.heap.size (by simp)).trans (newestO _ _))
    by_cases hlt : k < t.cols.length
    · obtain ⟨b, off, cap', e', hc1, hc2, hbl, hx0, hx1⟩ := At.get (HC.out.kept (k_trans K0.out HL.out)) hlt
      simp only [Value.slice.injEq, true_and] at e'
      obtain ⟨rfl, rfl⟩ := e'
      unfold maxLen at hc2
      cases hv : colB (t.cols.getD k (0, 0)).1 (t.cols.getD k (0, 0)).2
      · have HF : Hid (tblB t = false) := Hid.intro (tblB_cols (by rw [colsB, all_false (0, 0) (fun p : Int × Int => colB p.1 p.2) t.cols k hlt hv, Bool.and_false]))
        generalize t.cols.getD k (0, 0) = x at hx0 hx1 hv
        go_wp2_with fail
        refine (specL2Col _ _ _).mono ?_
        rw [hv]
        rintro e w1 ⟨rfl, hb1⟩
        have K1 := Hid.intro (k_trans (k_trans K0.out HL.out) hb1)
        clear hb1
        go_wp2
        go_ret
        exact ⟨retB HF.out.symm, K1.out⟩
      · have HN := Hid.intro (next_true (p := fun p : Int × Int => colB p.1 p.2) HA.out hv)
        generalize t.cols.getD k (0, 0) = x at hx0 hx1 hv
        go_wp2_with fail
        refine (specL2Col _ _ _).mono ?_
        rw [hv]
        rintro e w1 ⟨rfl, hb1⟩
        have K1 := Hid.intro (k_trans HL.out hb1)
        clear hb1
        go_wp2
        go_roundw
        case rel => exact ⟨k + 1, by omega, by go_num, HN, K1⟩
        case measure => simp [intOf]; omega
    · obtain rfl : k = t.cols.length := by omega
      have HCt : Hid (colsB t.cols = true) := Hid.intro (by rw [colsB, all_true (0, 0) (fun p : Int × Int => colB p.1 p.2) t.cols HA.out]; simp [c8'])
      go_wp2_with fail
      go_loopw [4, 5] (fun i _ W => ∃ k : Nat, k ≤ t.rows.length ∧ i = .int .i64 k ∧ Hid (∀ j, j < k → rowB (t.rows.getD j dR) = true) ∧ Hid (Below (w.alloc (.cells #[.slice ac t.cols.length cc, .int .i64 t.head, .int .i64 t.foot, .slice ar t.rows.length cr, .int .i64 t.gap] 37)).heap.size (w.alloc (.cells #[.slice ac t.cols.length cc, .int .i64 t.head, .int .i64 t.foot, .slice ar t.rows.length cr, .int .i64 t.gap] 37)) W)) (fun i _ _ => t.rows.length - (intOf i).toNat)
      case atStart => exact ⟨0, Nat.zero_le _, rfl, fun j hj => absurd hj (Nat.not_lt_zero _), HL⟩
      case round =>
        obtain ⟨q, hq, rfl, HA2, HL2⟩ := hrel
        clear m0 m1 m2 m3 m4
        obtain ⟨m0, m1, m2, m3, m4⟩ := fiveO ((HL2.out.block w.heap.size (by simp)).trans (newestO _ _))
        by_cases hlq : q < t.rows.length
        · obtain ⟨b, off, cap', e', hc1, hc2, hbl, u, hx0, hx1, hx⟩ := At.get (HR.out.kept (k_trans K0.out HL2.out)) hlq
          simp only [Value.slice.injEq, true_and] at e'
          obtain ⟨rfl, rfl⟩ := e'
          unfold maxLen at hc2
          obtain ⟨ua, ucap, rfl, hul⟩ := At.form hx
          unfold maxLen at hul
          have HX := Hid.intro hx
          clear hx
          have HRF := Hid.intro (fun hb => tblB_rows (all_false dR rowB t.rows q hlq hb))
          have HRN := Hid.intro (fun hb => next_true (d := dR) (p := rowB) (l := t.rows) (k := q) HA2.out hb)
          generalize hxx : t.rows.getD q dR = x at hx0 hx1 hul HX HRF HRN
          clear hxx
          by_cases h5 : (5 : Int) < (x.cells.length : Int)
          · have HF : Hid (tblB t = false) := Hid.intro (HRF.out (rowB_long (by omega)))
            go_wp2
            go_ret
            exact ⟨retB HF.out.symm, k_trans K0.out HL2.out⟩
          · have h5' : x.cells.length ≤ 5 := by omega
            go_wp2_with fail
            obtain ⟨wo, rfl⟩ : ∃ wo : World, wo = wr := ⟨_, rfl⟩
            go_loopw [5] (fun i W => ∃ p : Nat, p ≤ x.cells.length ∧ i = .int .i64 p ∧ Hid (∀ j, j < p → cB (x.cells.getD j dC) = true) ∧ Hid (Below (w.alloc (.cells #[.slice ac t.cols.length cc, .int .i64 t.head, .int .i64 t.foot, .slice (some ⟨b, off, none⟩) t.rows.length cr, .int .i64 t.gap] 37)).heap.size (w.alloc (.cells #[.slice ac t.cols.length cc, .int .i64 t.head, .int .i64 t.foot, .slice (some ⟨b, off, none⟩) t.rows.length cr, .int .i64 t.gap] 37)) W) ∧ Hid (Below wo.heap.size wo W)) (fun i _ => x.cells.length - (intOf i).toNat)
            case atStart => exact ⟨0, Nat.zero_le _, rfl, fun j hj => absurd hj (Nat.not_lt_zero _), HL2, Below.refl _ _⟩
            case round =>
              obtain ⟨p, hp, rfl, HA3, HL3, HO⟩ := hrel
              clear m0 m1 m2 m3 m4
              obtain ⟨m0, m1, m2, m3, m4⟩ := fiveO ((HL3.out.block w.heap.size (by simp)).trans (newestO _ _))
              have hy0 := (HO.out.cell (p := ⟨b, off + q * 2, none⟩) hbl).trans hx0
              clear hx0 hx1
              by_cases hlp : p < x.cells.length
              · obtain ⟨b2, off2, cap2, e2, hd1, hd2, hbl2, hz, hs⟩ := At.get (HX.out.kept HO.out) hlp
                simp only [Value.slice.injEq, true_and] at e2
                obtain ⟨rfl, rfl⟩ := e2
                unfold maxLen at hd2
                have hs' := Hid.intro hs
                clear hs
                cases hv : cB (x.cells.getD p dC)
                · have HF : Hid (tblB t = false) := Hid.intro (HRF.out (by rw [rowB, all_false dC cB x.cells p hlp hv, Bool.and_false]))
                  generalize x.cells.getD p dC = y at hz hs' hv
                  obtain ⟨x0, x1, x2, x3, x4, x5, x6, x7, x8, x9, x10⟩ := hz
                  go_wp2_with fail
                  refine (specCellOk _ _ _ _ _ _ _ _ _ _ _ _ hs'.out).mono ?_
                  rw [show cellOkB y.s y.c y.r y.a1 y.b1 y.a2 y.b2 y.a3 y.b3 y.a4 y.b4 = false from hv]
                  rintro e w1 ⟨rfl, hb1⟩
                  have K1 := Hid.intro (k_trans (k_trans K0.out HL3.out) hb1)
                  clear hb1
                  go_wp2
                  go_ret
                  exact ⟨retB HF.out.symm, K1.out⟩
                · have HN := Hid.intro (next_true HA3.out hv)
                  generalize x.cells.getD p dC = y at hz hs' hv
                  obtain ⟨x0, x1, x2, x3, x4, x5, x6, x7, x8, x9, x10⟩ := hz
                  go_wp2_with fail
                  refine (specCellOk _ _ _ _ _ _ _ _ _ _ _ _ hs'.out).mono ?_
                  rw [show cellOkB y.s y.c y.r y.a1 y.b1 y.a2 y.b2 y.a3 y.b3 y.a4 y.b4 = true from hv]
                  rintro e w1 ⟨rfl, hb1⟩
                  have K1 := Hid.intro (k_trans HL3.out hb1)
                  have O1 := Hid.intro (k_trans HO.out hb1)
                  clear hb1
                  go_wp2
                  go_roundw
                  case rel => exact ⟨p + 1, by omega, by go_num, HN, K1, O1⟩
                  case measure => simp [intOf]; omega
              · obtain rfl : p = x.cells.length := by omega
                have HN := Hid.intro (HRN.out (by rw [rowB, all_true dC cB x.cells HA3.out]; simp [h5']))
                go_wp2
                go_roundw
                case rel => exact ⟨q + 1, by omega, by go_num, HN, HL3⟩
                case measure => simp [intOf]; omega
        · obtain rfl : q = t.rows.length := by omega
          have HF : Hid (tblB t = true) := Hid.intro (by rw [HT.out, HCt.out, all_true dR rowB t.rows HA2.out]; rfl)
          go_wp2
          go_ret
          exact ⟨retB HF.out.symm, k_trans K0.out HL2.out⟩
end Go.Proofs.Ytggmjiddadjilal
