/-
  PROVED HERE: the model's l8Beside at a drawn table's grid is the border that is shown; nothing that was in memory is turned.
-/
import Derived.Test.YtfkkhfiiokhnaagB28
import Derived.Test.YtfkkhfiiokhnaagB23
import Derived.Test.YtfkkhfiiokhnaagB25
import Derived.Test.YtfkkhfiiokhnaagB12
import Derived.Laws.AppendOwn
namespace Go.Proofs.Ytfkkhfiiokhnaag
open Go.RowKit

theorem fieldA_l8Beside (x0 x1 x2 x3 x4 x5 x6 x7 x8 x9 x10 : Value) (W : World) : (Instr.field 89 (.agg #[x0, x1, x2, x3, x4, x5, x6, x7, x8, x9, x10]) 4).run Try.prog W = .ok (.agg #[x5, x6]) W := by kernel_rfl
theorem fieldB_l8Beside (x0 x1 x2 x3 x4 x5 x6 x7 x8 x9 x10 : Value) (W : World) : (Instr.field 89 (.agg #[x0, x1, x2, x3, x4, x5, x6, x7, x8, x9, x10]) 6).run Try.prog W = .ok (.agg #[x9, x10]) W := by kernel_rfl
set_option maxRecDepth 100000 in
set_option maxHeartbeats 2000000 in
theorem specl8Beside (ac ar ag : Option Addr) (cc cr cg : Nat) (t : T) (hD : Drawn t) (r c : Int) (hr : -1000 ≤ r ∧ r ≤ 1000) (hc : -1000 ≤ c ∧ c ≤ 1000) (w : World) {z zg : Nat} (hW : RowsAt w z (.slice ar t.rows.length cr) t.rows) (hG : GsAt w zg (.slice ag (gOf t).cells.length cg) (gOf t).cells) :
    Calls Try.prog 55 #[.agg #[.slice ac t.cols.length cc, .int .i64 t.head, .int .i64 t.foot, .slice ar t.rows.length cr, .int .i64 t.gap], .agg #[.int .i64 (gOf t).rows, .int .i64 (gOf t).cols, .slice ag (gOf t).cells.length cg], .int .i64 r, .int .i64 c] w fun e w' => e = .returned (.agg #[.int .i64 (besideF t r c).s, .int .i64 (besideF t r c).w, .int .i64 (besideF t r c).c]) ∧ Below w.heap.size w w' := by
  obtain ⟨i0, hi0, hz0, hz1, hz2⟩ := info_parts infoFr
  have hfa := fieldA_l8Beside
  have hfb := fieldB_l8Beside
  obtain ⟨W0, hW0⟩ : ∃ W, ((w.alloc (.cells #[.slice ac t.cols.length cc, .int .i64 t.head, .int .i64 t.foot, .slice ar t.rows.length cr, .int .i64 t.gap] 49)).alloc (.cells #[.int .i64 (gOf t).rows, .int .i64 (gOf t).cols, .slice ag (gOf t).cells.length cg] 56)).alloc (.cells #[.int .i64 0, .int .i64 0, .int .i64 0] 42) = W := ⟨_, rfl⟩
  have K3 : Below w.heap.size w W0 := by rw [← hW0]; exact k_alloc (k_alloc (k_alloc (Below.refl _ _) _) _) _
  have X0 : W0.heap[w.heap.size]? = some (.cells #[.slice ac t.cols.length cc, .int .i64 t.head, .int .i64 t.foot, .slice ar t.rows.length cr, .int .i64 t.gap] 49) := by rw [← hW0]; exact more (more (newest _ _) _) _
  have X1 : W0.heap[w.heap.size + 1]? = some (.cells #[.int .i64 (gOf t).rows, .int .i64 (gOf t).cols, .slice ag (gOf t).cells.length cg] 56) := by rw [← hW0]; exact more (newest1 _ _ _) _
  have X2 : W0.heap[w.heap.size + 1 + 1]? = some (.cells #[.int .i64 0, .int .i64 0, .int .i64 0] 42) := by
    have h := newest ((w.alloc (.cells #[.slice ac t.cols.length cc, .int .i64 t.head, .int .i64 t.foot, .slice ar t.rows.length cr, .int .i64 t.gap] 49)).alloc (.cells #[.int .i64 (gOf t).rows, .int .i64 (gOf t).cols, .slice ag (gOf t).cells.length cg] 56)) (.cells #[.int .i64 0, .int .i64 0, .int .i64 0] 42)
    rw [show ((w.alloc (.cells #[.slice ac t.cols.length cc, .int .i64 t.head, .int .i64 t.foot, .slice ar t.rows.length cr, .int .i64 t.gap] 49)).alloc (.cells #[.int .i64 (gOf t).rows, .int .i64 (gOf t).cols, .slice ag (gOf t).cells.length cg] 56)).heap.size = w.heap.size + 1 + 1 by simp, hW0] at h
    exact h
  have HX := Hid.intro (And.intro X0 (And.intro X1 X2))
  have HK0 := Hid.intro K3
  have hl0 : w.heap.size < W0.heap.size := (Array.getElem?_eq_some_iff.1 X0).1
  have hl1 : w.heap.size + 1 < W0.heap.size := (Array.getElem?_eq_some_iff.1 X1).1
  have hl2 : w.heap.size + 1 + 1 < W0.heap.size := (Array.getElem?_eq_some_iff.1 X2).1
  have HM := Hid.intro (And.intro (hW.kept K3) (hG.kept K3))
  have KA := Hid.intro (fun W (h : Below W0.heap.size W0 W) => specGrdAt (gOf t).rows (gOf t).cols ag cg (gOf t).cells r (c - 1) (by unfold I64; omega) (by unfold I64; omega) W (HM.out.2.kept h))
  have KB := Hid.intro (fun W (h : Below W0.heap.size W0 W) => specGrdAt (gOf t).rows (gOf t).cols ag cg (gOf t).cells r c (by unfold I64; omega) (by unfold I64; omega) W (HM.out.2.kept h))
  have KC := Hid.intro (fun k (hk : k < (gOf t).cells.length) W (h : Below W0.heap.size W0 W) => specl8Cell ac ar ag cc cr cg t hD k hk W (HM.out.1.kept h) (HM.out.2.kept h))
  have HF : Hid (besideF t r c = meetF ⟨(cellN t (atN t r (c - 1))).a2, (cellN t (atN t r (c - 1))).b2, atN t r (c - 1)⟩ ⟨(cellN t (atN t r c)).a4, (cellN t (atN t r c)).b4, atN t r c⟩) := rfl
  have ha := at_is t r (c - 1)
  have hb0 := at_is t r c
  rw [show findTo (holdsB r (c - 1)) (gOf t).cells = atN t r (c - 1) from rfl] at KA
  rw [show findTo (holdsB r c) (gOf t).cells = atN t r c from rfl] at KB
  generalize atN t r (c - 1) = a at KA HF ha
  generalize atN t r c = b at KB HF hb0
  obtain ⟨⟨q0, q1, q2⟩, _⟩ := cells3 X1
  clear hW hG K3 X0 X1 X2 hD
  go_enter Try.func55, Try.ntmps55
  go_upto_region 1 with fail
  clear hW0
  go_wp2_with fail
  refine (KA.out _ (Below.refl _ _)).mono ?_
  rintro e w1 ⟨rfl, hb1⟩
  have HB1 := Hid.intro hb1
  clear hb1 q0 q1 q2 KA
  obtain ⟨⟨q0, q1, q2⟩, _⟩ := cells3 ((HB1.out.block _ hl1).trans HX.out.2.1)
  go_wp2_with fail
  refine (KB.out _ HB1.out).mono ?_
  rintro e w2 ⟨rfl, hb2⟩
  have HB := Hid.intro (k_alloc (k_trans HB1.out hb2) (.cells #[] 42))
  have HO : Hid ((w2.alloc (.cells #[] 42)).ownsRow W0.heap.size 42 3 (.slice (some ⟨w2.heap.size, 0, none⟩) 0 0) ([] : List Fr).length (([] : List Fr).flatMap frVs)) := World.ownsRow_made (base := W0.heap.size) (e := 42) (size := 3) w2 #[] 0 (k_trans HB1.out hb2).size (Nat.zero_le _) rfl
  clear hb2 q0 q1 q2 KB HB1
  go_upto_region 4 with fail
  generalize w2.alloc (.cells #[] 42) = W3 at HB HO ⊢
  generalize w2.heap.size = lb at HO ⊢
  rcases ha with rfl | ⟨k1, rfl, hk1⟩
  · rcases hb0 with rfl | ⟨k2, rfl, hk2⟩
    · skip
      have HFr := Hid.intro (frs_of HO.out)
      go_wp2_with fail
      refine (specBrdBest _ [] (by simp) _ HFr.out).mono ?_
      rintro e w9 ⟨rfl, hb⟩
      have HE : Hid (bestF [] = besideF t r c) := by rw [Hid, HF.out]; rw [best_none, meetF, if_pos rfl]
      rw [HE.out]
      replace HB := Hid.intro (k_trans HB.out hb)
      have X9 := (HB.out.block _ hl2).trans HX.out.2.2
      obtain ⟨⟨d0, d1, d2⟩, f0, f1, f2⟩ := cells3 X9
      have HBl := Hid.intro ((k_trans HK0.out HB.out).trans ((st3_bk w9 (w.heap.size + 1 + 1) (.int .i64 (besideF t r c).s) (.int .i64 (besideF t r c).w) (.int .i64 (besideF t r c).c)).below (k_trans HK0.out HB.out).size (by omega)))
      clear hb X9 HO HFr
      go_wp2
      exact bodyPost_ret (v := .agg #[.int .i64 (besideF t r c).s, .int .i64 (besideF t r c).w, .int .i64 (besideF t r c).c]) (by simp [results, Try.results55, go_sem, d0, d1, d2]) rfl ⟨rfl, HBl.out⟩
    · have hne : ((-1 : Int) != (k2 : Int)) = true := bne_iff_ne.2 (by omega)
      have Hk2 : Hid (True) := trivial
      generalize hyy : cellN t (k2 : Int) = y at HF
      have HY := Hid.intro hyy
      clear hyy
      obtain ⟨⟨b0, b1, b2, b3, b4⟩, _⟩ := fiveZ ((HB.out.block _ hl0).trans HX.out.1)
      obtain ⟨⟨g0, g1, g2⟩, _⟩ := cells3 ((HB.out.block _ hl1).trans HX.out.2.1)
      go_wp2_with fail
      refine (KC.out k2 hk2 _ HB.out).mono ?_
      rintro e wc2 ⟨rfl, hb⟩
      rw [HY.out]
      replace HB := Hid.intro (k_trans HB.out hb)
      replace HO := Hid.intro (row_below HO.out hb)
      have hO4 := HO.out
      have hszB : W0.heap.size ≤ wc2.heap.size := HB.out.size
      clear hb b0 b1 b2 b3 b4 g0 g1 g2
      go_wp2_with (at_builtin; refine wpList_append_own _ rfl _ _ 39 rfl W0.heap.size 42 i0 _ 3 24 Try.underlying39 hi0 hz0 hz1 hz2 rfl (by decide) _ _ _ rfl (hO4.alloc _) ⟨wc2.heap.size, 0, none⟩ 1 1 (frVs ⟨y.a4, y.b4, (k2 : Int)⟩) rfl rfl (news_at (newestB _ _)) (by simp [frVs, Value.oneCell']) (by unfold maxLen; simp) (by simp) (by simp; omega) ?_)
      intro v2 wd2 hown' hgrow' _
      replace HB := Hid.intro ((k_alloc HB.out _).grown hgrow' (by simp; omega) (fun q hq => (hO4.lt q hq).1))
      replace HO : Hid (wd2.ownsRow W0.heap.size 42 3 v2 ([] ++ [⟨y.a4, y.b4, (k2 : Int)⟩] : List Fr).length (([] ++ [⟨y.a4, y.b4, (k2 : Int)⟩] : List Fr).flatMap frVs)) := Hid.intro (by simpa [List.flatMap_append] using hown')
      obtain ⟨aa2, ca2, rfl, _⟩ := row_form hown'
      clear hown' hgrow' hO4 hszB
      have HFr := Hid.intro (frs_of HO.out)
      go_wp2_with fail
      refine (specBrdBest _ ([] ++ [⟨y.a4, y.b4, (k2 : Int)⟩]) (by simp) _ HFr.out).mono ?_
      rintro e w9 ⟨rfl, hb⟩
      have HE : Hid (bestF ([] ++ [⟨y.a4, y.b4, (k2 : Int)⟩]) = besideF t r c) := by rw [Hid, HF.out]; rw [show ([] ++ [(⟨y.a4, y.b4, (k2 : Int)⟩ : Fr)]) = [⟨y.a4, y.b4, (k2 : Int)⟩] from rfl, best_one, meetF, if_neg (show ¬ (-1 : Int) = (k2 : Int) by omega), if_pos (show (-1 : Int) < 0 by omega)]
      rw [HE.out]
      replace HB := Hid.intro (k_trans HB.out hb)
      have X9 := (HB.out.block _ hl2).trans HX.out.2.2
      obtain ⟨⟨d0, d1, d2⟩, f0, f1, f2⟩ := cells3 X9
      have HBl := Hid.intro ((k_trans HK0.out HB.out).trans ((st3_bk w9 (w.heap.size + 1 + 1) (.int .i64 (besideF t r c).s) (.int .i64 (besideF t r c).w) (.int .i64 (besideF t r c).c)).below (k_trans HK0.out HB.out).size (by omega)))
      clear hb X9 HO HFr
      go_wp2
      exact bodyPost_ret (v := .agg #[.int .i64 (besideF t r c).s, .int .i64 (besideF t r c).w, .int .i64 (besideF t r c).c]) (by simp [results, Try.results55, go_sem, d0, d1, d2]) rfl ⟨rfl, HBl.out⟩
  · generalize hxx : cellN t (k1 : Int) = x at HF
    have HXc := Hid.intro hxx
    clear hxx
    rcases hb0 with rfl | ⟨k2, rfl, hk2⟩
    · have hne : ((k1 : Int) != (-1 : Int)) = true := bne_iff_ne.2 (by omega)
      obtain ⟨⟨b0, b1, b2, b3, b4⟩, _⟩ := fiveZ ((HB.out.block _ hl0).trans HX.out.1)
      obtain ⟨⟨g0, g1, g2⟩, _⟩ := cells3 ((HB.out.block _ hl1).trans HX.out.2.1)
      go_wp2_with fail
      refine (KC.out k1 hk1 _ HB.out).mono ?_
      rintro e wc1 ⟨rfl, hb⟩
      rw [HXc.out]
      replace HB := Hid.intro (k_trans HB.out hb)
      replace HO := Hid.intro (row_below HO.out hb)
      have hO4 := HO.out
      have hszB : W0.heap.size ≤ wc1.heap.size := HB.out.size
      clear hb b0 b1 b2 b3 b4 g0 g1 g2
      go_wp2_with (at_builtin; refine wpList_append_own _ rfl _ _ 39 rfl W0.heap.size 42 i0 _ 3 24 Try.underlying39 hi0 hz0 hz1 hz2 rfl (by decide) _ _ _ rfl (hO4.alloc _) ⟨wc1.heap.size, 0, none⟩ 1 1 (frVs ⟨x.a2, x.b2, (k1 : Int)⟩) rfl rfl (news_at (newestB _ _)) (by simp [frVs, Value.oneCell']) (by unfold maxLen; simp) (by simp) (by simp; omega) ?_)
      intro v1 wd1 hown' hgrow' _
      replace HB := Hid.intro ((k_alloc HB.out _).grown hgrow' (by simp; omega) (fun q hq => (hO4.lt q hq).1))
      replace HO : Hid (wd1.ownsRow W0.heap.size 42 3 v1 ([] ++ [⟨x.a2, x.b2, (k1 : Int)⟩] : List Fr).length (([] ++ [⟨x.a2, x.b2, (k1 : Int)⟩] : List Fr).flatMap frVs)) := Hid.intro (by simpa [List.flatMap_append] using hown')
      obtain ⟨aa1, ca1, rfl, _⟩ := row_form hown'
      clear hown' hgrow' hO4 hszB
      have HFr := Hid.intro (frs_of HO.out)
      go_wp2_with fail
      refine (specBrdBest _ ([] ++ [⟨x.a2, x.b2, (k1 : Int)⟩]) (by simp) _ HFr.out).mono ?_
      rintro e w9 ⟨rfl, hb⟩
      have HE : Hid (bestF ([] ++ [⟨x.a2, x.b2, (k1 : Int)⟩]) = besideF t r c) := by rw [Hid, HF.out]; rw [show ([] ++ [(⟨x.a2, x.b2, (k1 : Int)⟩ : Fr)]) = [⟨x.a2, x.b2, (k1 : Int)⟩] from rfl, best_one, meetF, if_neg (show ¬ (k1 : Int) = -1 by omega), if_neg (show ¬ (k1 : Int) < 0 by omega), if_pos (show (-1 : Int) < 0 by omega)]
      rw [HE.out]
      replace HB := Hid.intro (k_trans HB.out hb)
      have X9 := (HB.out.block _ hl2).trans HX.out.2.2
      obtain ⟨⟨d0, d1, d2⟩, f0, f1, f2⟩ := cells3 X9
      have HBl := Hid.intro ((k_trans HK0.out HB.out).trans ((st3_bk w9 (w.heap.size + 1 + 1) (.int .i64 (besideF t r c).s) (.int .i64 (besideF t r c).w) (.int .i64 (besideF t r c).c)).below (k_trans HK0.out HB.out).size (by omega)))
      clear hb X9 HO HFr
      go_wp2
      exact bodyPost_ret (v := .agg #[.int .i64 (besideF t r c).s, .int .i64 (besideF t r c).w, .int .i64 (besideF t r c).c]) (by simp [results, Try.results55, go_sem, d0, d1, d2]) rfl ⟨rfl, HBl.out⟩
    · by_cases hkk : k1 = k2
      · subst hkk
        have hne : ((k1 : Int) != (k1 : Int)) = false := by simp
        have HFr := Hid.intro (frs_of HO.out)
        go_wp2_with fail
        refine (specBrdBest _ [] (by simp) _ HFr.out).mono ?_
        rintro e w9 ⟨rfl, hb⟩
        have HE : Hid (bestF [] = besideF t r c) := by rw [Hid, HF.out]; rw [best_none, meetF, if_pos rfl]
        rw [HE.out]
        replace HB := Hid.intro (k_trans HB.out hb)
        have X9 := (HB.out.block _ hl2).trans HX.out.2.2
        obtain ⟨⟨d0, d1, d2⟩, f0, f1, f2⟩ := cells3 X9
        have HBl := Hid.intro ((k_trans HK0.out HB.out).trans ((st3_bk w9 (w.heap.size + 1 + 1) (.int .i64 (besideF t r c).s) (.int .i64 (besideF t r c).w) (.int .i64 (besideF t r c).c)).below (k_trans HK0.out HB.out).size (by omega)))
        clear hb X9 HO HFr
        go_wp2
        exact bodyPost_ret (v := .agg #[.int .i64 (besideF t r c).s, .int .i64 (besideF t r c).w, .int .i64 (besideF t r c).c]) (by simp [results, Try.results55, go_sem, d0, d1, d2]) rfl ⟨rfl, HBl.out⟩
      · have hne : ((k1 : Int) != (k2 : Int)) = true := bne_iff_ne.2 (by omega)
        generalize hyy : cellN t (k2 : Int) = y at HF
        have HY := Hid.intro hyy
        clear hyy
        have Hkk := Hid.intro hkk
        clear hkk
        obtain ⟨⟨b0, b1, b2, b3, b4⟩, _⟩ := fiveZ ((HB.out.block _ hl0).trans HX.out.1)
        obtain ⟨⟨g0, g1, g2⟩, _⟩ := cells3 ((HB.out.block _ hl1).trans HX.out.2.1)
        go_wp2_with fail
        refine (KC.out k1 hk1 _ HB.out).mono ?_
        rintro e wc1 ⟨rfl, hb⟩
        rw [HXc.out]
        replace HB := Hid.intro (k_trans HB.out hb)
        replace HO := Hid.intro (row_below HO.out hb)
        have hO4 := HO.out
        have hszB : W0.heap.size ≤ wc1.heap.size := HB.out.size
        clear hb b0 b1 b2 b3 b4 g0 g1 g2
        go_wp2_with (at_builtin; refine wpList_append_own _ rfl _ _ 39 rfl W0.heap.size 42 i0 _ 3 24 Try.underlying39 hi0 hz0 hz1 hz2 rfl (by decide) _ _ _ rfl (hO4.alloc _) ⟨wc1.heap.size, 0, none⟩ 1 1 (frVs ⟨x.a2, x.b2, (k1 : Int)⟩) rfl rfl (news_at (newestB _ _)) (by simp [frVs, Value.oneCell']) (by unfold maxLen; simp) (by simp) (by simp; omega) ?_)
        intro v1 wd1 hown' hgrow' _
        replace HB := Hid.intro ((k_alloc HB.out _).grown hgrow' (by simp; omega) (fun q hq => (hO4.lt q hq).1))
        replace HO : Hid (wd1.ownsRow W0.heap.size 42 3 v1 ([] ++ [⟨x.a2, x.b2, (k1 : Int)⟩] : List Fr).length (([] ++ [⟨x.a2, x.b2, (k1 : Int)⟩] : List Fr).flatMap frVs)) := Hid.intro (by simpa [List.flatMap_append] using hown')
        obtain ⟨aa1, ca1, rfl, _⟩ := row_form hown'
        clear hown' hgrow' hO4 hszB
        obtain ⟨⟨b0, b1, b2, b3, b4⟩, _⟩ := fiveZ ((HB.out.block _ hl0).trans HX.out.1)
        obtain ⟨⟨g0, g1, g2⟩, _⟩ := cells3 ((HB.out.block _ hl1).trans HX.out.2.1)
        go_wp2_with fail
        refine (KC.out k2 hk2 _ HB.out).mono ?_
        rintro e wc2 ⟨rfl, hb⟩
        rw [HY.out]
        replace HB := Hid.intro (k_trans HB.out hb)
        replace HO := Hid.intro (row_below HO.out hb)
        have hO4 := HO.out
        have hszB : W0.heap.size ≤ wc2.heap.size := HB.out.size
        clear hb b0 b1 b2 b3 b4 g0 g1 g2
        go_wp2_with (at_builtin; refine wpList_append_own _ rfl _ _ 39 rfl W0.heap.size 42 i0 _ 3 24 Try.underlying39 hi0 hz0 hz1 hz2 rfl (by decide) _ _ _ rfl (hO4.alloc _) ⟨wc2.heap.size, 0, none⟩ 1 1 (frVs ⟨y.a4, y.b4, (k2 : Int)⟩) rfl rfl (news_at (newestB _ _)) (by simp [frVs, Value.oneCell']) (by unfold maxLen; simp) (by simp) (by simp; omega) ?_)
        intro v2 wd2 hown' hgrow' _
        replace HB := Hid.intro ((k_alloc HB.out _).grown hgrow' (by simp; omega) (fun q hq => (hO4.lt q hq).1))
        replace HO : Hid (wd2.ownsRow W0.heap.size 42 3 v2 (([] ++ [⟨x.a2, x.b2, (k1 : Int)⟩]) ++ [⟨y.a4, y.b4, (k2 : Int)⟩] : List Fr).length ((([] ++ [⟨x.a2, x.b2, (k1 : Int)⟩]) ++ [⟨y.a4, y.b4, (k2 : Int)⟩] : List Fr).flatMap frVs)) := Hid.intro (by simpa [List.flatMap_append] using hown')
        obtain ⟨aa2, ca2, rfl, _⟩ := row_form hown'
        clear hown' hgrow' hO4 hszB
        have HFr := Hid.intro (frs_of HO.out)
        go_wp2_with fail
        refine (specBrdBest _ (([] ++ [⟨x.a2, x.b2, (k1 : Int)⟩]) ++ [⟨y.a4, y.b4, (k2 : Int)⟩]) (by simp) _ HFr.out).mono ?_
        rintro e w9 ⟨rfl, hb⟩
        have HE : Hid (bestF (([] ++ [⟨x.a2, x.b2, (k1 : Int)⟩]) ++ [⟨y.a4, y.b4, (k2 : Int)⟩]) = besideF t r c) := by rw [Hid, HF.out]; rw [show (([] ++ [(⟨x.a2, x.b2, (k1 : Int)⟩ : Fr)]) ++ [(⟨y.a4, y.b4, (k2 : Int)⟩ : Fr)]) = [⟨x.a2, x.b2, (k1 : Int)⟩, ⟨y.a4, y.b4, (k2 : Int)⟩] from rfl, best_two, meetF, if_neg (show ¬ (k1 : Int) = (k2 : Int) by have := Hkk.out; omega), if_neg (show ¬ (k1 : Int) < 0 by omega), if_neg (show ¬ (k2 : Int) < 0 by omega)]
        rw [HE.out]
        replace HB := Hid.intro (k_trans HB.out hb)
        have X9 := (HB.out.block _ hl2).trans HX.out.2.2
        obtain ⟨⟨d0, d1, d2⟩, f0, f1, f2⟩ := cells3 X9
        have HBl := Hid.intro ((k_trans HK0.out HB.out).trans ((st3_bk w9 (w.heap.size + 1 + 1) (.int .i64 (besideF t r c).s) (.int .i64 (besideF t r c).w) (.int .i64 (besideF t r c).c)).below (k_trans HK0.out HB.out).size (by omega)))
        clear hb X9 HO HFr
        go_wp2
        exact bodyPost_ret (v := .agg #[.int .i64 (besideF t r c).s, .int .i64 (besideF t r c).w, .int .i64 (besideF t r c).c]) (by simp [results, Try.results55, go_sem, d0, d1, d2]) rfl ⟨rfl, HBl.out⟩
end Go.Proofs.Ytfkkhfiiokhnaag
