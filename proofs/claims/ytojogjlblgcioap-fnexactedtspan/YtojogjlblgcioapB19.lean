/-
  PROVED HERE: what the model's EdtSpan answers: of a table that is ok the table with another span of one cell, or the table as it is, in memory of its own; else nothing; nothing that was in memory is turned.
-/
import Derived.Test.YtojogjlblgcioapB18
namespace Go.Proofs.Ytojogjlblgcioap
open Go.RowKit

set_option maxRecDepth 100000 in
set_option maxHeartbeats 4000000 in
theorem specEdtSpan (ac ar : Option Addr) (cc cr : Nat) (t : T) (row at' : Int) (hrow : -9223372036854775808 ≤ row ∧ row ≤ 9223372036854775807) (cv rv : Int) (w : World) {z : Nat} (hc : ColsAt w z (.slice ac t.cols.length cc) t.cols) (hr : RowsAt w z (.slice ar t.rows.length cr) t.rows) :
    Calls Try.prog 12 #[.agg #[.slice ac t.cols.length cc, .int .i64 t.head, .int .i64 t.foot, .slice ar t.rows.length cr, .int .i64 t.gap], .int .i64 row, .int .i64 at', .int .i64 cv, .int .i64 rv] w fun e w' => ∃ a1 c1 a2 c2 d1 d2, e = .returned (.tuple #[.agg #[.slice a1 d1 c1, .int .i64 (edSpan t row at' cv rv).1.head, .int .i64 (edSpan t row at' cv rv).1.foot, .slice a2 d2 c2, .int .i64 (edSpan t row at' cv rv).1.gap], .bool (edSpan t row at' cv rv).2]) ∧ OwnT w' w.heap.size (.slice a1 d1 c1) (.slice a2 d2 c2) (edSpan t row at' cv rv).1 ∧ Below w.heap.size w w' := by
  obtain ⟨W0, hW0⟩ : ∃ W0, (w.alloc (.cells #[.slice ac t.cols.length cc, .int .i64 t.head, .int .i64 t.foot, .slice ar t.rows.length cr, .int .i64 t.gap] 30)).alloc (.cells #[.slice none 0 0, .int .i64 0, .int .i64 0, .slice none 0 0, .int .i64 0] 30) = W0 := ⟨_, rfl⟩
  have K0 : Below w.heap.size w W0 := by rw [← hW0]; exact k_alloc (k_alloc (Below.refl _ _) _) _
  have T0 : W0.heap[w.heap.size]? = some (.cells #[.slice ac t.cols.length cc, .int .i64 t.head, .int .i64 t.foot, .slice ar t.rows.length cr, .int .i64 t.gap] 30) := by rw [← hW0]; exact alloc_at (newestB _ _)
  have T4 : W0.heap[w.heap.size + 1]? = some (.cells #[.slice none 0 0, .int .i64 0, .int .i64 0, .slice none 0 0, .int .i64 0] 30) := by rw [← hW0]; exact alloc_new (by simp)
  have hsz : w.heap.size + 1 < W0.heap.size := (Array.getElem?_eq_some_iff.1 T4).1
  have KO := Hid.intro (specTblOk ac ar cc cr t W0 (hc.kept K0) (hr.kept K0))
  have HCA := Hid.intro hc
  have HRA := Hid.intro hr
  have HK0 := Hid.intro K0
  have HT0 := Hid.intro T0
  have HT4 := Hid.intro T4
  obtain ⟨b0, b1, b2, b3, b4⟩ := fiveO T0
  clear hc hr K0 T0 T4
  go_enter Try.func12, Try.ntmps12
  go_upto_region 1 with fail
  clear hW0
  have hl4 : w.heap.size ≤ w.heap.size + 1 := by omega
  generalize w.heap.size + 1 = bz at HT4 hsz hl4 ⊢
  cases htk : tblB t with
  | false =>
    rw [htk] at KO
    have HE : Hid (edSpan t row at' cv rv = (zT, false)) := by show _ = _; rw [edSpan, if_neg (by rw [htk]; simp)]
    clear htk
    go_wp2_with fail
    refine KO.out.mono ?_
    rintro e w1 ⟨rfl, hb1⟩
    replace HT4 := Hid.intro ((hb1.block _ (Array.getElem?_eq_some_iff.1 HT4.out).1).trans HT4.out)
    replace HK0 := Hid.intro (k_trans HK0.out hb1)
    obtain ⟨d0, d1, d2, d3, d4⟩ := fiveO HT4.out
    have fz : ∀ p, w1.frozen? ⟨bz, p, none⟩ = false := fun p => freeB HT4.out
    clear hb1 KO b0 b1 b2 b3 b4
    go_wp2
    exact bodyPost_ret (v := .tuple #[.agg #[.slice none 0 0, .int .i64 0, .int .i64 0, .slice none 0 0, .int .i64 0], .bool false]) (by simp [results, Try.results12, go_sem, d0, d1, d2, d3, d4]) rfl ⟨none, 0, none, 0, 0, 0, by rw [HE.out]; rfl, by rw [HE.out]; exact ⟨[], rfl, ⟨rfl, .inl ⟨rfl, rfl⟩⟩, ⟨⟨rfl, .inl ⟨rfl, rfl⟩⟩, fun p hp => absurd hp (by simp), .nil⟩⟩, k_set (k_set (k_set (k_set (k_set HK0.out hl4 _) hl4 _) hl4 _) hl4 _) hl4 _⟩
  | true =>
    rw [htk] at KO
    have HEd : Hid (edSpan t row at' cv rv = if (hasB t row at' && okSp cv rv) = true then (setRow t row.toNat ((t.rows.getD row.toNat dR).cells.set at'.toNat (spC ((t.rows.getD row.toNat dR).cells.getD at'.toNat dC) cv rv)), true) else (t, false)) := by show _ = _; rw [edSpan, if_pos htk]
    have H5 := Hid.intro (cells_5 htk)
    have hb8 := (tbl_bounds htk).2.2.1
    have HCp := Hid.intro (fun W (h : Below w.heap.size w W) => specl2Copy ac ar cc cr t htk W (HCA.out.kept h) (HRA.out.kept h))
    clear htk
    go_wp2_with fail
    refine KO.out.mono ?_
    rintro e w1 ⟨rfl, hb1⟩
    replace HT0 := Hid.intro ((hb1.block _ (Array.getElem?_eq_some_iff.1 HT0.out).1).trans HT0.out)
    replace HT4 := Hid.intro ((hb1.block _ (Array.getElem?_eq_some_iff.1 HT4.out).1).trans HT4.out)
    replace HK0 := Hid.intro (k_trans HK0.out hb1)
    clear hb1 KO b0 b1 b2 b3 b4
    obtain ⟨b0, b1, b2, b3, b4⟩ := fiveO HT0.out
    have KC := Hid.intro (HCp.out w1 HK0.out)
    have hsz1 : bz < w1.heap.size := (Array.getElem?_eq_some_iff.1 HT4.out).1
    go_wp2_with fail
    refine KC.out.mono ?_
    rintro e w2 ⟨a1, c1, a2, c2, rfl, ⟨ur, hur, hOc, hOr⟩, hb2⟩
    replace HT0 := Hid.intro ((hb2.block _ (Array.getElem?_eq_some_iff.1 HT0.out).1).trans HT0.out)
    replace HT4 := Hid.intro ((hb2.block _ (Array.getElem?_eq_some_iff.1 HT4.out).1).trans HT4.out)
    replace HK0 := Hid.intro (k_trans HK0.out hb2)
    have Hur := Hid.intro hur
    have HOD := Hid.intro ((OwnD.of hOc hOr).kept (k_alloc (Below.refl _ _) (.cells #[.slice a1 t.cols.length c1, .int .i64 t.head, .int .i64 t.foot, .slice a2 t.rows.length c2, .int .i64 t.gap] 30)))
    replace HT0 := Hid.intro (alloc_at (o := (.cells #[.slice a1 t.cols.length c1, .int .i64 t.head, .int .i64 t.foot, .slice a2 t.rows.length c2, .int .i64 t.gap] 30)) HT0.out)
    replace HT4 := Hid.intro (alloc_at (o := (.cells #[.slice a1 t.cols.length c1, .int .i64 t.head, .int .i64 t.foot, .slice a2 t.rows.length c2, .int .i64 t.gap] 30)) HT4.out)
    replace HK0 := Hid.intro (k_alloc HK0.out (.cells #[.slice a1 t.cols.length c1, .int .i64 t.head, .int .i64 t.foot, .slice a2 t.rows.length c2, .int .i64 t.gap] 30))
    have HX : Hid ((w2.alloc (.cells #[.slice a1 t.cols.length c1, .int .i64 t.head, .int .i64 t.foot, .slice a2 t.rows.length c2, .int .i64 t.gap] 30)).heap[w2.heap.size]? = some (.cells #[.slice a1 t.cols.length c1, .int .i64 t.head, .int .i64 t.foot, .slice a2 t.rows.length c2, .int .i64 t.gap] 30)) := newestB _ _
    have hxW : w2.heap.size < (w2.alloc (.cells #[.slice a1 t.cols.length c1, .int .i64 t.head, .int .i64 t.foot, .slice a2 t.rows.length c2, .int .i64 t.gap] 30)).heap.size := by simp
    have hbx : bz < w2.heap.size := Nat.lt_of_lt_of_le hsz1 hb2.size
    clear hOc hOr hb2 hur KC HCp b0 b1 b2 b3 b4
    go_upto_region 4 with fail
    generalize w2.alloc (.cells #[.slice a1 t.cols.length c1, .int .i64 t.head, .int .i64 t.foot, .slice a2 t.rows.length c2, .int .i64 t.gap] 30) = W1 at HT0 HT4 HK0 HX HOD hxW ⊢
    generalize w2.heap.size = xb at HX HOD hxW hbx ⊢
    generalize w1.heap.size = bB at HOD hsz1
    obtain ⟨b0, b1, b2, b3, b4⟩ := fiveO HT0.out
    have hsz := hsz1
    obtain ⟨_, _, _, hrlen⟩ := At.form HRA.out
    cases hin : inB row 0 ((t.rows.length : Int) - 1) with
    | false =>
      have KI := Hid.intro (fun W => l1In_any row 0 ((t.rows.length : Int) - 1) W)
      rw [hin] at KI
      have HE : Hid (edSpan t row at' cv rv = (t, false)) := by
        show _ = _
        have : hasB t row at' = false := by unfold hasB cellsInV; rw [hin]; exact inB_false (by simp; omega)
        rw [HEd.out, if_neg (by rw [this]; simp)]
      clear hin HEd
      obtain ⟨x0, x1, x2, x3, x4⟩ := fiveO HX.out
      go_wp2_with fail
      refine (KI.out _).mono ?_
      rintro e w3 ⟨rfl, e3⟩
      subst e3
      obtain ⟨d0, d1, d2, d3, d4⟩ := fiveO HT4.out
      have fz : ∀ p, w3.frozen? ⟨bz, p, none⟩ = false := fun p => freeB HT4.out
      go_wp2
      exact bodyPost_ret (v := .tuple #[.agg #[.slice a1 t.cols.length c1, .int .i64 t.head, .int .i64 t.foot, .slice a2 t.rows.length c2, .int .i64 t.gap], .bool false]) (by simp [results, Try.results12, go_sem, d0, d1, d2, d3, d4]) rfl ⟨a1, c1, a2, c2, _, _, by rw [HE.out], by rw [HE.out]; exact OwnT.base (OwnT.since (own_lt HOD.out rfl Hur.out) (Since.set (Since.set (Since.set (Since.set (Since.set (Since.refl _ _) (p := ⟨bz, 0, none⟩) hsz _) (p := ⟨bz, 1, none⟩) hsz _) (p := ⟨bz, 2, none⟩) hsz _) (p := ⟨bz, 3, none⟩) hsz _) (p := ⟨bz, 4, none⟩) hsz _)) (by omega), k_set (k_set (k_set (k_set (k_set HK0.out hl4 _) hl4 _) hl4 _) hl4 _) hl4 _⟩
    | true =>
      obtain ⟨r, rfl⟩ : ∃ r : Nat, row = r := ⟨row.toNat, by simp only [inB, decide_eq_true_eq] at hin; omega⟩
      have hrl : r < t.rows.length := by simp only [inB, decide_eq_true_eq] at hin; omega
      have KI := Hid.intro (fun W => l1In_any (r : Int) 0 ((t.rows.length : Int) - 1) W)
      rw [hin] at KI
      obtain ⟨bq, oq, cr', e', hq1, hq2, hlq, u, hx0', hx1', hx'⟩ := At.get (HRA.out.kept HK0.out) hrl
      simp only [Value.slice.injEq, true_and] at e'
      obtain ⟨rfl, rfl⟩ := e'
      obtain ⟨au, cu, rfl, hul'⟩ := At.form hx'
      have HHb : Hid (hasB t (r : Int) at' = inB at' 0 (((t.rows.getD r dR).cells.length : Int) - 1)) := by
        show _ = _
        unfold hasB cellsInV
        rw [if_pos hin, Int.toNat_natCast]
      have hm5 : (t.rows.getD r dR).cells.length ≤ 1048576 := H5.out _ (by rw [getD_get dR hrl]; exact List.getElem_mem hrl)
      have KA := Hid.intro (fun W => l1In_any at' 0 (((t.rows.getD r dR).cells.length : Int) - 1) W)
      rw [← HHb.out] at KA
      generalize hmE : (t.rows.getD r dR).cells.length = m at KA hx0' hm5
      clear hmE HHb hin hx1' hx' hul'
      unfold maxLen at hq2 hrlen
      go_wp2_with fail
      refine (KI.out _).mono ?_
      rintro e w3 ⟨rfl, e3⟩
      subst e3
      clear KI
      go_wp2_with fail
      refine (KA.out _).mono ?_
      rintro e w4 ⟨rfl, e4⟩
      subst e4
      clear KA b0 b1 b2 b3 b4 hx0'
      cases hh : hasB t (r : Int) at' with
      | false =>
        have HE : Hid (edSpan t (r : Int) at' cv rv = (t, false)) := by show _ = _; rw [HEd.out, if_neg (by rw [hh]; simp)]
        clear hh HEd
        obtain ⟨x0, x1, x2, x3, x4⟩ := fiveO HX.out
        obtain ⟨d0, d1, d2, d3, d4⟩ := fiveO HT4.out
        have fz : ∀ p, w4.frozen? ⟨bz, p, none⟩ = false := fun p => freeB HT4.out
        go_wp2
        exact bodyPost_ret (v := .tuple #[.agg #[.slice a1 t.cols.length c1, .int .i64 t.head, .int .i64 t.foot, .slice a2 t.rows.length c2, .int .i64 t.gap], .bool false]) (by simp [results, Try.results12, go_sem, d0, d1, d2, d3, d4]) rfl ⟨a1, c1, a2, c2, _, _, by rw [HE.out], by rw [HE.out]; exact OwnT.base (OwnT.since (own_lt HOD.out rfl Hur.out) (Since.set (Since.set (Since.set (Since.set (Since.set (Since.refl _ _) (p := ⟨bz, 0, none⟩) hsz _) (p := ⟨bz, 1, none⟩) hsz _) (p := ⟨bz, 2, none⟩) hsz _) (p := ⟨bz, 3, none⟩) hsz _) (p := ⟨bz, 4, none⟩) hsz _)) (by omega), k_set (k_set (k_set (k_set (k_set HK0.out hl4 _) hl4 _) hl4 _) hl4 _) hl4 _⟩
      | true =>
        have Hh := Hid.intro hh
        clear hh
        have KX := Hid.intro (fun W => l1In_any cv 1 4 W)
        have KY := Hid.intro (fun W => l1In_any rv 1 4 W)
        have HOk : Hid (okSp cv rv = (inB cv 1 4 && inB rv 1 4)) := rfl
        cases hcv : inB cv 1 4 with
        | false =>
          rw [hcv] at KX HOk
          have HE : Hid (edSpan t (r : Int) at' cv rv = (t, false)) := by show _ = _; rw [HEd.out, if_neg (by rw [HOk.out]; simp)]
          clear hcv HEd HOk
          go_wp2_with fail
          refine (KX.out _).mono ?_
          rintro e w5 ⟨rfl, e5⟩
          subst e5
          clear KX KY
          obtain ⟨x0, x1, x2, x3, x4⟩ := fiveO HX.out
          obtain ⟨d0, d1, d2, d3, d4⟩ := fiveO HT4.out
          have fz : ∀ p, w5.frozen? ⟨bz, p, none⟩ = false := fun p => freeB HT4.out
          go_wp2
          exact bodyPost_ret (v := .tuple #[.agg #[.slice a1 t.cols.length c1, .int .i64 t.head, .int .i64 t.foot, .slice a2 t.rows.length c2, .int .i64 t.gap], .bool false]) (by simp [results, Try.results12, go_sem, d0, d1, d2, d3, d4]) rfl ⟨a1, c1, a2, c2, _, _, by rw [HE.out], by rw [HE.out]; exact OwnT.base (OwnT.since (own_lt HOD.out rfl Hur.out) (Since.set (Since.set (Since.set (Since.set (Since.set (Since.refl _ _) (p := ⟨bz, 0, none⟩) hsz _) (p := ⟨bz, 1, none⟩) hsz _) (p := ⟨bz, 2, none⟩) hsz _) (p := ⟨bz, 3, none⟩) hsz _) (p := ⟨bz, 4, none⟩) hsz _)) (by omega), k_set (k_set (k_set (k_set (k_set HK0.out hl4 _) hl4 _) hl4 _) hl4 _) hl4 _⟩
        | true =>
          rw [hcv] at KX HOk
          clear hcv
          cases hrv : inB rv 1 4 with
          | false =>
            rw [hrv] at KY HOk
            have HE : Hid (edSpan t (r : Int) at' cv rv = (t, false)) := by show _ = _; rw [HEd.out, if_neg (by rw [HOk.out]; simp)]
            clear hrv HEd HOk
            go_wp2_with fail
            refine (KX.out _).mono ?_
            rintro e w5 ⟨rfl, e5⟩
            subst e5
            clear KX
            go_wp2_with fail
            refine (KY.out _).mono ?_
            rintro e w6 ⟨rfl, e6⟩
            subst e6
            clear KY
            obtain ⟨x0, x1, x2, x3, x4⟩ := fiveO HX.out
            obtain ⟨d0, d1, d2, d3, d4⟩ := fiveO HT4.out
            have fz : ∀ p, w6.frozen? ⟨bz, p, none⟩ = false := fun p => freeB HT4.out
            go_wp2
            exact bodyPost_ret (v := .tuple #[.agg #[.slice a1 t.cols.length c1, .int .i64 t.head, .int .i64 t.foot, .slice a2 t.rows.length c2, .int .i64 t.gap], .bool false]) (by simp [results, Try.results12, go_sem, d0, d1, d2, d3, d4]) rfl ⟨a1, c1, a2, c2, _, _, by rw [HE.out], by rw [HE.out]; exact OwnT.base (OwnT.since (own_lt HOD.out rfl Hur.out) (Since.set (Since.set (Since.set (Since.set (Since.set (Since.refl _ _) (p := ⟨bz, 0, none⟩) hsz _) (p := ⟨bz, 1, none⟩) hsz _) (p := ⟨bz, 2, none⟩) hsz _) (p := ⟨bz, 3, none⟩) hsz _) (p := ⟨bz, 4, none⟩) hsz _)) (by omega), k_set (k_set (k_set (k_set (k_set HK0.out hl4 _) hl4 _) hl4 _) hl4 _) hl4 _⟩
          | true =>
            rw [hrv] at KY HOk
            have HE : Hid (edSpan t (r : Int) at' cv rv = (setRow t (r : Int).toNat ((t.rows.getD (r : Int).toNat dR).cells.set at'.toNat (spC ((t.rows.getD (r : Int).toNat dR).cells.getD at'.toNat dC) cv rv)), true)) := by show _ = _; rw [HEd.out, if_pos (by rw [Hh.out, HOk.out]; rfl)]
            clear hrv HEd HOk
            go_wp2_with fail
            refine (KX.out _).mono ?_
            rintro e w5 ⟨rfl, e5⟩
            subst e5
            clear KX
            go_wp2_with fail
            refine (KY.out _).mono ?_
            rintro e w6 ⟨rfl, e6⟩
            subst e6
            clear KY
            obtain ⟨r', a, er, rfl, hrl', hal⟩ := hasB_iff.1 Hh.out
            obtain rfl : r = r' := by omega
            rw [Int.toNat_natCast, Int.toNat_natCast] at HE
            have hur := Hur.out
            have hul : ur.length = t.rows.length := by rw [← hur, List.length_map]
            have hge : ur[r]? = some (ur[r]'(by omega)) := List.getElem?_eq_getElem (by omega)
            have hpr : (ur[r]'(by omega)).2 = t.rows.getD r dR := by rw [← map_snd_get hge, hur]
            generalize hpE : ur[r]'(by omega) = p at hge hpr
            clear hpE
            rw [← hpr] at hal HE
            obtain ⟨g, cg, arr, ev, hg1, hg2, hgl, hgB, harr, hasz, ha0, ha1⟩ := own_get HOD.out.2.1 hge
            rw [hul] at ev hg1
            simp only [Value.slice.injEq, true_and] at ev
            obtain ⟨rfl, rfl⟩ := ev
            obtain ⟨h, cu, cur, hpv, hh1, hh2, hh3, hh4⟩ := own_row HOD.out.2.1 hge hal
            rw [hpv] at ha0
            have HOw := Hid.intro (OwnD.put2 HOD.out (Below.refl _ _) hge hpv hal (i := 1) (j := 2) (by decide) (by decide) (x := spC p.2.cells[a] cv p.2.cells[a].r) (y := spC (p.2.cells.getD a dC) cv rv) (u := .int .i64 cv) (v := .int .i64 rv) rfl (by rw [getD_get dC hal]; rfl))
            have hhx : h ≠ xb := fun e => by subst e; rw [HX.out] at hh1; simp at hh1
            have hhl : h < w6.heap.size := (Array.getElem?_eq_some_iff.1 hh1).1
            have hhz : h ≠ bz := fun e => by subst e; rw [HT4.out] at hh1; simp at hh1
            have hBw : w.heap.size ≤ h := by
              have := (row_lt (HOD.out.2.1.cells p (List.mem_of_getElem? hge)) (b := h) (by rw [hpv]; rfl)).1
              omega
            have HK4 := Hid.intro ((HK0.out.setCell (p := ⟨h, a * 11 + 1, none⟩) hBw (.int .i64 cv)).setCell (p := ⟨h, a * 11 + 2, none⟩) hBw (.int .i64 rv))
            have hZ4 : ((w6.setCell ⟨h, a * 11 + 1, none⟩ (.int .i64 cv)).setCell ⟨h, a * 11 + 2, none⟩ (.int .i64 rv)).heap[bz]? = some (.cells #[.slice none 0 0, .int .i64 0, .int .i64 0, .slice none 0 0, .int .i64 0] 30) := (Below.heap_setCell _ _ _ _ (by dsimp only; exact fun e => hhz e.symm)).trans ((Below.heap_setCell _ _ _ _ (by dsimp only; exact fun e => hhz e.symm)).trans HT4.out)
            have hX4 : ((w6.setCell ⟨h, a * 11 + 1, none⟩ (.int .i64 cv)).setCell ⟨h, a * 11 + 2, none⟩ (.int .i64 rv)).heap[xb]? = some (.cells #[.slice a1 t.cols.length c1, .int .i64 t.head, .int .i64 t.foot, .slice (some ⟨g, 0, none⟩) t.rows.length c2, .int .i64 t.gap] 30) := (Below.heap_setCell _ _ _ _ (by dsimp only; exact fun e => hhx e.symm)).trans ((Below.heap_setCell _ _ _ _ (by dsimp only; exact fun e => hhx e.symm)).trans HX.out)
            have L0 := (cellB harr).trans ha0
            have hgh : g ≠ h := fun e => by subst e; rw [hh1] at harr; simp at harr
            have HX6 : Hid ((w6.setCell ⟨h, a * 11 + 1, none⟩ (.int .i64 cv)).heap[xb]? = some (.cells #[.slice a1 t.cols.length c1, .int .i64 t.head, .int .i64 t.foot, .slice (some ⟨g, 0, none⟩) t.rows.length c2, .int .i64 t.gap] 30)) := (Below.heap_setCell _ _ _ _ (by dsimp only; exact fun e => hhx e.symm)).trans HX.out
            have HG6 : Hid ((w6.setCell ⟨h, a * 11 + 1, none⟩ (.int .i64 cv)).cell? ⟨g, r * 2, none⟩ = some (.slice (some ⟨h, 0, none⟩) p.2.cells.length cu)) := (cellB ((Below.heap_setCell _ _ _ _ (by dsimp only; exact hgh)).trans harr)).trans ha0
            have HH6 := Hid.intro (setB (p := a * 11 + 1) hh1 (.int .i64 cv))
            have hcz : cur.size = cu * 11 := hh4
            obtain ⟨y0, hy0⟩ := someB (p := a * 11 + 1) hh1 (by omega)
            have fzh : w6.frozen? ⟨h, a * 11 + 1, none⟩ = false := freeB hh1
            obtain ⟨x0, x1, x2, x3, x4⟩ := fiveO HX.out
            have HX4 := Hid.intro hX4
            have HZ4 := Hid.intro hZ4
            have HUr : Hid ((ur.set r (p.1, ⟨p.2.cells.set a (spC (p.2.cells.getD a dC) cv rv), p.2.whole⟩)).map (·.2) = (setRow t r (p.2.cells.set a (spC (p.2.cells.getD a dC) cv rv))).rows) := by
              show _ = _
              rw [map_set_snd, hur, setRow, hpr]
            unfold maxLen at hg2 hh3
            have hln := hal
            generalize p.2.cells.length = ml at hln hh2 L0 HG6
            clear hX4 hZ4 hh1 harr ha0 ha1 hal hpr hpv hge hur hul
            go_upto_region 7 with fail
            clear x0 x1 x2 x3 x4 L0 hy0 fzh
            generalize (w6.setCell ⟨h, a * 11 + 1, none⟩ (.int .i64 cv)) = V6 at HX6 HG6 HH6 HK4 HX4 HZ4 HOw ⊢
            obtain ⟨x0, x1, x2, x3, x4⟩ := fiveO HX6.out
            have L0 := HG6.out
            obtain ⟨y1, hy0⟩ := someB (p := a * 11 + 2) HH6.out (by rw [Array.size_setIfInBounds]; omega)
            have fzh : V6.frozen? ⟨h, a * 11 + 2, none⟩ = false := freeB HH6.out
            go_upto_region 8 with fail
            generalize V6.setCell ⟨h, a * 11 + 2, none⟩ (.int .i64 rv) = W6 at HK4 HX4 HZ4 HOw ⊢
            clear x0 x1 x2 x3 x4 L0 hy0 fzh
            obtain ⟨x0, x1, x2, x3, x4⟩ := fiveO HX4.out
            obtain ⟨d0, d1, d2, d3, d4⟩ := fiveO HZ4.out
            have fz : ∀ p, W6.frozen? ⟨bz, p, none⟩ = false := fun p => freeB HZ4.out
            go_wp2
            exact bodyPost_ret (v := .tuple #[.agg #[.slice a1 t.cols.length c1, .int .i64 t.head, .int .i64 t.foot, .slice (some ⟨g, 0, none⟩) t.rows.length c2, .int .i64 t.gap], .bool true]) (by simp [results, Try.results12, go_sem, d0, d1, d2, d3, d4]) rfl ⟨a1, c1, some ⟨g, 0, none⟩, c2, _, _, by rw [HE.out]; rfl, by rw [HE.out]; exact OwnT.base (OwnT.since (own_lt HOw.out rfl HUr.out) (Since.set (Since.set (Since.set (Since.set (Since.set (Since.refl _ _) (p := ⟨bz, 0, none⟩) hsz _) (p := ⟨bz, 1, none⟩) hsz _) (p := ⟨bz, 2, none⟩) hsz _) (p := ⟨bz, 3, none⟩) hsz _) (p := ⟨bz, 4, none⟩) hsz _)) (by omega), k_set (k_set (k_set (k_set (k_set HK4.out hl4 _) hl4 _) hl4 _) hl4 _) hl4 _⟩
end Go.Proofs.Ytojogjlblgcioap
