/-
  PROVED HERE: l20Laid draws a table and a width, and turns nothing that was in memory but the reader; DrawWidCols, and all that draw so, draw them.
-/
import Derived.Test.YtfkkhfiiokhnaafGreatB52
import Derived.Test.YtfkkhfiiokhnaafGreatB36
import Derived.Test.YtfkkhfiiokhnaafGreatB18
import Derived.Deep.RegionWith
namespace Go.Proofs.YtfkkhfiiokhnaafGreat
open Go.RowKit

theorem IsCode.keptD {w w' : World} {a : Option Addr} {len cap : Nat} (h : IsCode w a len cap) (hb : Below w.heap.size w w') : IsCode w' a len cap := by
  obtain ⟨h1, h2, hc⟩ := h
  refine ⟨h1, h2, fun i hi => ?_⟩
  obtain ⟨b, off, z, e, l, c, z0, z1⟩ := hc i hi
  exact ⟨b, off, z, e, Nat.lt_of_lt_of_le l hb.size, (hb.cell (p := ⟨b, off + i, none⟩) l).trans c, z0, z1⟩
theorem st5_is {w : World} {g : Nat} {x0 x1 x2 x3 x4 : Value} {t : TypeId} (h : w.heap[g]? = some (.cells #[x0, x1, x2, x3, x4] t)) (y0 y1 y2 y3 y4 : Value) : (st5 w g y0 y1 y2 y3 y4).heap[g]? = some (.cells #[y0, y1, y2, y3, y4] t) :=
  (setB (setB (setB (setB (setB h (p := 0) y0) (p := 1) y1) (p := 2) y2) (p := 3) y3) (p := 4) y4).trans (by simp)
set_option maxRecDepth 100000 in
set_option maxHeartbeats 4000000 in
theorem l20Laid_any (r B : Nat) (w : World) (h : Rd w r B) (hB : B ≤ 100) :
    Calls Tryz.prog 33 #[.pointer (some ⟨r, 0, none⟩)] w fun e w' => ∃ (ac ar : Option Addr) (cc cr : Nat) (t : T) (x : Int), e = .returned (.tuple #[.agg #[.slice ac t.cols.length cc, .int .i64 t.head, .int .i64 t.foot, .slice ar t.rows.length cr, .int .i64 t.gap], .int .i64 x]) ∧ Drawn t ∧ (-1 ≤ x ∧ x ≤ 301) ∧ ColsAt w' w.heap.size (.slice ac t.cols.length cc) t.cols ∧ RowsAt w' w.heap.size (.slice ar t.rows.length cr) t.rows ∧ Bk r w w' := by
  have hlt := h.lt
  have HR0 := Hid.intro (h.alloc (.cells #[.slice none 0 0, .int .i64 0, .int .i64 0, .slice none 0 0, .int .i64 0] 26))
  have X0 := newest w (.cells #[.slice none 0 0, .int .i64 0, .int .i64 0, .slice none 0 0, .int .i64 0] 26)
  have hs0 : (w.alloc (.cells #[.slice none 0 0, .int .i64 0, .int .i64 0, .slice none 0 0, .int .i64 0] 26)).heap.size = w.heap.size + 1 := by simp
  have K0 := (Bk.refl r w).alloc (.cells #[.slice none 0 0, .int .i64 0, .int .i64 0, .slice none 0 0, .int .i64 0] 26)
  clear h
  go_enter Tryz.func33, Tryz.ntmps33
  go_wp2_with fail
  refine (l20AnyTable_any r B 24 (by omega) _ HR0.out (by omega)).mono ?_
  rintro e w1 ⟨ac, ar, cc, cr, t, rfl, hD, hC1, hW1, hR1, hb1⟩
  rw [hs0] at hC1 hW1
  have X1 := (hb1.block w.heap.size (by omega) (by omega)).trans X0
  have hz1 := hb1.size
  have hlt1 := hR1.lt
  have hT2 := newest w1 (.cells #[.slice ac t.cols.length cc, .int .i64 t.head, .int .i64 t.foot, .slice ar t.rows.length cr, .int .i64 t.gap] 26)
  have hZ2 := more X1 (.cells #[.slice ac t.cols.length cc, .int .i64 t.head, .int .i64 t.foot, .slice ar t.rows.length cr, .int .i64 t.gap] 26)
  have hC2 := hC1.kept (k_alloc (Below.refl w1.heap.size w1) (.cells #[.slice ac t.cols.length cc, .int .i64 t.head, .int .i64 t.foot, .slice ar t.rows.length cr, .int .i64 t.gap] 26))
  have hW2 := hW1.kept (k_alloc (Below.refl w1.heap.size w1) (.cells #[.slice ac t.cols.length cc, .int .i64 t.head, .int .i64 t.foot, .slice ar t.rows.length cr, .int .i64 t.gap] 26))
  have hR2 := hR1.alloc (.cells #[.slice ac t.cols.length cc, .int .i64 t.head, .int .i64 t.foot, .slice ar t.rows.length cr, .int .i64 t.gap] 26)
  have hK2 := (K0.trans hb1).alloc (.cells #[.slice ac t.cols.length cc, .int .i64 t.head, .int .i64 t.foot, .slice ar t.rows.length cr, .int .i64 t.gap] 26)
  have hS2 : Since (w.heap.size + 1) w1 (w1.alloc (.cells #[.slice ac t.cols.length cc, .int .i64 t.head, .int .i64 t.foot, .slice ar t.rows.length cr, .int .i64 t.gap] 26)) := Since.of_below (k_alloc (Below.refl _ _) _)
  have HW1 := Hid.intro hW1
  have htr : w1.heap.size ≠ r := by omega
  have htn : w.heap.size < w1.heap.size := by omega
  go_upto_region 2 with fail
  generalize w1.alloc (.cells #[.slice ac t.cols.length cc, .int .i64 t.head, .int .i64 t.foot, .slice ar t.rows.length cr, .int .i64 t.gap] 26) = W2 at hT2 hZ2 hC2 hW2 hR2 hK2 hS2 ⊢
  obtain ⟨tb, htb0⟩ : ∃ tb, tb = w1.heap.size := ⟨_, rfl⟩
  rw [← htb0] at hT2 htr htn ⊢
  have hs1 : Since (w.heap.size + 1) w1 W2 := hS2
  have htw : tb = w1.heap.size := htb0
  clear hC1 hR1 hb1 X1 hz1 hlt1 X0 K0 HR0 hs0
  have HT2 := Hid.intro hT2
  have HZ2 := Hid.intro hZ2
  have HD := Hid.intro hD
  go_wp2_with fail
  refine (pick_any r _ _ _ hR2 (by omega)).mono ?_
  rintro e w3 ⟨k, rfl, _, hR3, hb3⟩
  have hz3 := hb3.size
  have HT := Hid.intro ((hb3.block tb (Array.getElem?_eq_some_iff.1 hT2).1 htr).trans hT2)
  have HZ := Hid.intro ((hb3.block w.heap.size (Array.getElem?_eq_some_iff.1 hZ2).1 (by omega)).trans hZ2)
  have hsn : Since (w.heap.size + 1) W2 w3 := ⟨hb3.size, fun q h1 h2 => hb3.block q h2 (by omega)⟩
  have HC := Hid.intro (hC2.since hsn)
  have HW := Hid.intro (hW2.since hsn)
  have HS3 := Hid.intro (hs1.trans hsn)
  have Htw := Hid.intro htw
  clear htw htb0 hs1 hS2 hW1
  have HR := Hid.intro hR3
  have HK := Hid.intro (hK2.trans hb3)
  clear hT2 hZ2 hC2 hW2 hR2 hK2 hR3 hb3 hsn HT2 HZ2 hD
  by_cases h0 : k = 0
  case neg =>
    have hne : (k == 0) = false := beq_eq_false_iff_ne.2 h0
    clear h0
    obtain ⟨W4, hW4⟩ : ∃ W4, W4 = w3 := ⟨_, rfl⟩
    subst hW4
    obtain ⟨⟨d0, d1, d2, d3, d4⟩, _⟩ := fiveZ HT.out
    have hR4 := HR.out.drew
    have hK4 := (Bk.refl r W4).drew
    have hlW : w.heap.size < W4.heap.size := (Array.getElem?_eq_some_iff.1 HZ.out).1
    go_upto_region 4 with fail
    go_region_with (first
      | (go_at_call 70; refine (l20Width_any r (B + 3000 + 1) _ hR4 (by omega)).mono ?_; rintro e w6 ⟨x, rfl, hx, _, hb6⟩; have hb6' := hK4.trans hb6; have hTz := (hb6'.block tb (Array.getElem?_eq_some_iff.1 HT.out).1 htr).trans HT.out; have hZz := (hb6'.block w.heap.size hlW (by omega)).trans HZ.out; obtain ⟨⟨e0, e1, e2, e3, e4⟩, _⟩ := fiveZ hTz; obtain ⟨⟨x0, x1, x2, x3, x4⟩, y0, y1, y2, y3, y4⟩ := fiveZ hZz; have HX := Hid.intro hx; have HB6 := Hid.intro hb6'; clear hTz hZz hb6 hx hb6'))
    all_goals
      have hw6 := HB6.out.size
      have hsn : Since (w.heap.size + 1) W4 w6 := ⟨HB6.out.size, fun q h1 h2 => HB6.out.block q h2 (by omega)⟩
      have HC6 := Hid.intro ((HC.out.since hsn).since (Since.st5a (z := w.heap.size + 1) (g := w.heap.size) (by omega) (.slice ac t.cols.length cc) (.int .i64 t.head) (.int .i64 t.foot) (.slice ar t.rows.length cr) (.int .i64 t.gap)))
      have HW6 := Hid.intro ((HW.out.since hsn).since (Since.st5a (z := w.heap.size + 1) (g := w.heap.size) (by omega) (.slice ac t.cols.length cc) (.int .i64 t.head) (.int .i64 t.foot) (.slice ar t.rows.length cr) (.int .i64 t.gap)))
      have HK6 := Hid.intro ((HK.out.trans HB6.out).via (st5_bk w6 w.heap.size (.slice ac t.cols.length cc) (.int .i64 t.head) (.int .i64 t.foot) (.slice ar t.rows.length cr) (.int .i64 t.gap)) (Nat.le_refl _))
      clear hsn
      go_wp2
      exact bodyPost_ret (v := .tuple #[.agg #[.slice ac t.cols.length cc, .int .i64 t.head, .int .i64 t.foot, .slice ar t.rows.length cr, .int .i64 t.gap], .int .i64 x]) (by simp [results, Tryz.results33, go_sem, x0, x1, x2, x3, x4]) rfl ⟨ac, ar, cc, cr, t, x, rfl, HD.out, HX.out, HC6.out.base (by omega), HW6.out.base (by omega), HK6.out⟩
  case pos =>
    subst h0
    obtain ⟨⟨d0, d1, d2, d3, d4⟩, _⟩ := fiveZ HT.out
    go_wp2_with fail
    refine (l20AllFixed_any r _ ac ar cc cr t HD.out _ HR.out (by omega) HC.out HW.out).mono ?_
    rintro e w5 ⟨ad, cd, ps, rfl, hps, hC5, hR5, hb5⟩
    have hz5 := hb5.size
    have hw3 : w.heap.size + 1 ≤ w3.heap.size := by have := (Array.getElem?_eq_some_iff.1 HT.out).1; omega
    have HT5 := Hid.intro ((hb5.block tb (Array.getElem?_eq_some_iff.1 HT.out).1 htr).trans HT.out)
    have HZ5 := Hid.intro ((hb5.block w.heap.size (Array.getElem?_eq_some_iff.1 HZ.out).1 (by omega)).trans HZ.out)
    have hW5 := HW.out.since (z := w.heap.size + 1) ⟨hb5.size, fun q h1 h2 => hb5.block q h2 (by omega)⟩
    obtain ⟨⟨q0, q1, q2, q3, q4⟩, p0, p1, p2, p3, p4⟩ := fiveZ HT5.out
    clear d0 d1 d2 d3 d4
    have hbq := st5_bk w5 tb (.slice ad ps.length cd) (.int .i64 t.head) (.int .i64 t.foot) (.slice ar t.rows.length cr) (.int .i64 t.gap)
    have htb3 : tb < w3.heap.size := (Array.getElem?_eq_some_iff.1 HT.out).1
    have hT6 := st5_is HT5.out (.slice ad ps.length cd) (.int .i64 t.head) (.int .i64 t.foot) (.slice ar t.rows.length cr) (.int .i64 t.gap)
    have hZ6 := (hbq.block w.heap.size (Array.getElem?_eq_some_iff.1 HZ5.out).1 (by omega)).trans HZ5.out
    have hC6 := (hC5.since (Since.st5a (z := w3.heap.size) (g := tb) htb3 (.slice ad ps.length cd) (.int .i64 t.head) (.int .i64 t.foot) (.slice ar t.rows.length cr) (.int .i64 t.gap))).base hw3
    have hW6 : RowsAt (st5 w5 tb (.slice ad ps.length cd) (.int .i64 t.head) (.int .i64 t.foot) (.slice ar t.rows.length cr) (.int .i64 t.gap)) (w.heap.size + 1) (.slice ar t.rows.length cr) t.rows :=
      HW1.out.since ⟨Nat.le_trans HS3.out.size (Nat.le_trans hb5.size hbq.size), fun q h1 h2 => (hbq.block q (by have := HS3.out.size; omega) (by rw [Htw.out]; omega)).trans ((hb5.block q (by have := HS3.out.size; omega) (by omega)).trans (HS3.out.block q h1 h2))⟩
    have hR6 : Rd (st5 w5 tb (.slice ad ps.length cd) (.int .i64 t.head) (.int .i64 t.foot) (.slice ar t.rows.length cr) (.int .i64 t.gap)) r (B + 3000 + 1 + 8) := hR5.keep (fun q hq => hbq.block q (by have := hR5.lt; omega) (by omega))
    have hK6 := (HK.out.trans hb5).via hbq (by omega)
    have HDp : Hid (Drawn ⟨ps, t.head, t.foot, t.rows, t.gap⟩) := ⟨HD.out.rows, by show ps.length ≤ 9; omega, HD.out.head, HD.out.foot, HD.out.gap, HD.out.cells, HD.out.few⟩
    clear HT HZ HC HW HR HK HT5 HZ5 hW5 hC5 hR5 hb5 hbq HD HW1 HS3 Htw
    go_upto_region 4 with fail
    unfold st5 at hT6 hZ6 hC6 hW6 hR6 hK6
    generalize (((((w5.setCell ⟨tb, 0, none⟩ (.slice ad ps.length cd)).setCell ⟨tb, 1, none⟩ (.int .i64 t.head)).setCell ⟨tb, 2, none⟩ (.int .i64 t.foot)).setCell ⟨tb, 3, none⟩ (.slice ar t.rows.length cr)).setCell ⟨tb, 4, none⟩ (.int .i64 t.gap)) = W4 at hT6 hZ6 hC6 hW6 hR6 hK6 ⊢
    have HT := Hid.intro hT6
    have HZ := Hid.intro hZ6
    have HC := Hid.intro hC6
    have HW := Hid.intro hW6
    have HR := Hid.intro hR6
    have HK := Hid.intro hK6
    have HD := HDp
    clear hT6 hZ6 hC6 hW6 hR6 hK6 HDp q0 q1 q2 q3 q4 p0 p1 p2 p3 p4
    obtain ⟨⟨d0, d1, d2, d3, d4⟩, _⟩ := fiveZ HT.out
    have hR4 := HR.out.drew
    have hK4 := (Bk.refl r W4).drew
    have hlW : w.heap.size < W4.heap.size := (Array.getElem?_eq_some_iff.1 HZ.out).1
    go_region_with (first
      | (go_at_call 70; refine (l20Width_any r (B + 3000 + 1 + 8) _ hR4 (by omega)).mono ?_; rintro e w6 ⟨x, rfl, hx, _, hb6⟩; have hb6' := hK4.trans hb6; have hTz := (hb6'.block tb (Array.getElem?_eq_some_iff.1 HT.out).1 htr).trans HT.out; have hZz := (hb6'.block w.heap.size hlW (by omega)).trans HZ.out; obtain ⟨⟨e0, e1, e2, e3, e4⟩, _⟩ := fiveZ hTz; obtain ⟨⟨x0, x1, x2, x3, x4⟩, y0, y1, y2, y3, y4⟩ := fiveZ hZz; have HX := Hid.intro hx; have HB6 := Hid.intro hb6'; clear hTz hZz hb6 hx hb6'))
    all_goals
      have hw6 := HB6.out.size
      have hsn : Since (w.heap.size + 1) W4 w6 := ⟨HB6.out.size, fun q h1 h2 => HB6.out.block q h2 (by omega)⟩
      have HC6 := Hid.intro ((HC.out.since hsn).since (Since.st5a (z := w.heap.size + 1) (g := w.heap.size) (by omega) (.slice ad ps.length cd) (.int .i64 t.head) (.int .i64 t.foot) (.slice ar t.rows.length cr) (.int .i64 t.gap)))
      have HW6 := Hid.intro ((HW.out.since hsn).since (Since.st5a (z := w.heap.size + 1) (g := w.heap.size) (by omega) (.slice ad ps.length cd) (.int .i64 t.head) (.int .i64 t.foot) (.slice ar t.rows.length cr) (.int .i64 t.gap)))
      have HK6 := Hid.intro ((HK.out.trans HB6.out).via (st5_bk w6 w.heap.size (.slice ad ps.length cd) (.int .i64 t.head) (.int .i64 t.foot) (.slice ar t.rows.length cr) (.int .i64 t.gap)) (Nat.le_refl _))
      clear hsn
      go_wp2
      exact bodyPost_ret (v := .tuple #[.agg #[.slice ad ps.length cd, .int .i64 t.head, .int .i64 t.foot, .slice ar t.rows.length cr, .int .i64 t.gap], .int .i64 x]) (by simp [results, Tryz.results33, go_sem, x0, x1, x2, x3, x4]) rfl ⟨ad, ar, cd, cr, ⟨ps, t.head, t.foot, t.rows, t.gap⟩, x, rfl, HD.out, HX.out, HC6.out.base (by omega), HW6.out.base (by omega), HK6.out⟩
set_option maxRecDepth 100000 in
set_option maxHeartbeats 1000000 in
theorem drawWidCols_any (a : Option Addr) (len cap : Nat) (w : World) (h : IsCode w a len cap) :
    Calls Tryz.prog 7 #[.slice a len cap] w fun e w' => ∃ (ac ar : Option Addr) (cc cr : Nat) (t : T) (x : Int), e = .returned (.tuple #[.agg #[.slice ac t.cols.length cc, .int .i64 t.head, .int .i64 t.foot, .slice ar t.rows.length cr, .int .i64 t.gap], .int .i64 x]) ∧ Drawn t ∧ (-1 ≤ x ∧ x ≤ 301) ∧ ColsAt w' w.heap.size (.slice ac t.cols.length cc) t.cols ∧ RowsAt w' w.heap.size (.slice ar t.rows.length cr) t.rows ∧ Below w.heap.size w w' := by
  have K0 := k_alloc (Below.refl w.heap.size w) (.cells #[.slice none 0 0, .int .i64 0, .int .i64 0, .slice none 0 0, .int .i64 0] 26)
  have HC := Hid.intro (h.keptD K0)
  have X0 := newestB w (.cells #[.slice none 0 0, .int .i64 0, .int .i64 0, .slice none 0 0, .int .i64 0] 26)
  clear h
  have hsz : (w.alloc (.cells #[.slice none 0 0, .int .i64 0, .int .i64 0, .slice none 0 0, .int .i64 0] 26)).heap.size = w.heap.size + 1 := by simp
  go_enter Tryz.func7, Tryz.ntmps7
  go_wp2_with fail
  refine (open_any _ _ _ _ HC.out).mono ?_
  rintro e w1 ⟨rfl, hR1, hb1⟩
  rw [hsz] at hR1 hb1
  have X1 := (hb1.block w.heap.size (by omega)).trans X0
  have K1 := k_trans K0 (by rw [hsz]; exact hb1)
  have hz1 := hR1.lt
  go_wp2_with fail
  refine (l20Laid_any (w.heap.size + 1) 0 _ hR1 (by omega)).mono ?_
  rintro e w2 ⟨ac, ar, cc, cr, t, x, rfl, hD, hx, hC2, hW2, hb2⟩
  have X2 := (hb2.block w.heap.size (by omega) (by omega)).trans X1
  have K2 := K1.trans (hb2.below (by omega) (by omega))
  have hz2 := hb2.size
  have hw1 : w.heap.size + 2 ≤ w1.heap.size := by omega
  have HC3 := Hid.intro ((hC2.base hw1).since (Since.st5a (z := w.heap.size + 2) (g := w.heap.size) (by omega) (.slice ac t.cols.length cc) (.int .i64 t.head) (.int .i64 t.foot) (.slice ar t.rows.length cr) (.int .i64 t.gap)))
  have HW3 := Hid.intro ((hW2.base hw1).since (Since.st5a (z := w.heap.size + 2) (g := w.heap.size) (by omega) (.slice ac t.cols.length cc) (.int .i64 t.head) (.int .i64 t.foot) (.slice ar t.rows.length cr) (.int .i64 t.gap)))
  have K3 := Hid.intro (K2.trans ((st5_bk w2 w.heap.size (.slice ac t.cols.length cc) (.int .i64 t.head) (.int .i64 t.foot) (.slice ar t.rows.length cr) (.int .i64 t.gap)).below (by omega) (Nat.le_refl _)))
  have HD := Hid.intro hD
  obtain ⟨⟨x0, x1, x2, x3, x4⟩, y0, y1, y2, y3, y4⟩ := fiveZ X2
  clear hC2 hW2 hb2 X2 X1 X0 K0 K1 K2 hD HC hR1 hb1
  go_wp2
  exact bodyPost_ret (v := .tuple #[.agg #[.slice ac t.cols.length cc, .int .i64 t.head, .int .i64 t.foot, .slice ar t.rows.length cr, .int .i64 t.gap], .int .i64 x]) (by simp [results, Tryz.results7, go_sem, x0, x1, x2, x3, x4]) rfl ⟨ac, ar, cc, cr, t, x, rfl, HD.out, hx, HC3.out.base (by omega), HW3.out.base (by omega), K3.out⟩
end Go.Proofs.YtfkkhfiiokhnaafGreat
