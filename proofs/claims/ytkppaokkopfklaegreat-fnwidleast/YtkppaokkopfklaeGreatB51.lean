/-
  PROVED HERE: the model's WidCols at a drawn table and any width is the list widT, in memory of its own; nothing that was in memory is turned. Also: what the model's GrdOf answers at a drawn table: its cells at their places, or nothing where it is not ok; nothing that was in memory is turned.
-/
import Derived.Test.YtkppaokkopfklaeGreatB46
import Derived.Test.YtkppaokkopfklaeGreatB50
import Derived.Test.YtkppaokkopfklaeGreatB6
import Derived.Test.YtkppaokkopfklaeGreatB40
import Derived.Test.YtkppaokkopfklaeGreatB20
import Derived.Test.YtkppaokkopfklaeGreatB19
import Derived.Test.YtkppaokkopfklaeGreatB15
namespace Go.Proofs.YtkppaokkopfklaeGreat
open Go.RowKit

set_option maxRecDepth 100000 in
set_option maxHeartbeats 1000000 in
theorem specWidCols (ac ar : Option Addr) (cc cr : Nat) (t : T) (hD : Drawn t) (width : Int) (w : World) {z : Nat} (hc : ColsAt w z (.slice ac t.cols.length cc) t.cols) (hr : RowsAt w z (.slice ar t.rows.length cr) t.rows) :
    Calls Tryz.prog 19 #[.agg #[.slice ac t.cols.length cc, .int .i64 t.head, .int .i64 t.foot, .slice ar t.rows.length cr, .int .i64 t.gap], .int .i64 width] w fun e w' => ∃ v, e = .returned v ∧ RowI w' w.heap.size w'.heap.size v (widT t width) ∧ Below w.heap.size w w' := by
  have K0 := k_alloc (Below.refl w.heap.size w) (.cells #[.slice ac t.cols.length cc, .int .i64 t.head, .int .i64 t.foot, .slice ar t.rows.length cr, .int .i64 t.gap] 26)
  have X0 := newestB w (.cells #[.slice ac t.cols.length cc, .int .i64 t.head, .int .i64 t.foot, .slice ar t.rows.length cr, .int .i64 t.gap] 26)
  obtain ⟨W0, hW0⟩ : ∃ W0, w.alloc (.cells #[.slice ac t.cols.length cc, .int .i64 t.head, .int .i64 t.foot, .slice ar t.rows.length cr, .int .i64 t.gap] 26) = W0 := ⟨_, rfl⟩
  rw [hW0] at K0 X0
  have HP : Hid (Below w.heap.size w W0 ∧ TA W0 z ac ar cc cr t ∧ W0.heap[w.heap.size]? = some (.cells #[.slice ac t.cols.length cc, .int .i64 t.head, .int .i64 t.foot, .slice ar t.rows.length cr, .int .i64 t.gap] 26)) := ⟨K0, ⟨hc.kept K0, hr.kept K0⟩, X0⟩
  have KO := Hid.intro (specTblOk ac ar cc cr t W0 HP.out.2.1.1 HP.out.2.1.2)
  obtain ⟨b0, b1, b2, b3, b4⟩ := fiveO X0
  clear hc hr K0 X0
  cases htk : tblB t with
  | false =>
    rw [htk] at KO
    have HE : Hid (widT t width = []) := by rw [Hid, widT, htk]; rfl
    clear htk
    go_enter Tryz.func19, Tryz.ntmps19
    go_upto_region 1 with fail
    clear hW0
    go_wp2_with fail
    refine KO.out.mono ?_
    rintro e w1 ⟨rfl, hb1⟩
    have HK1 := Hid.intro (k_trans HP.out.1 hb1)
    clear hb1 KO b0 b1 b2 b3 b4 HP
    go_wp2
    go_ret
    exact ⟨_, rfl, by rw [HE.out]; exact row_lit0 _ _ HK1.out.size, k_alloc HK1.out _⟩
  | true =>
    rw [htk] at KO
    have HIn := Hid.intro (l1In_any width 0 300)
    cases hin : inB width 0 300 with
    | false =>
      have HE : Hid (widT t width = []) := by rw [Hid, widT, htk, hin]; rfl
      rw [hin] at HIn
      clear htk hin hD
      go_enter Tryz.func19, Tryz.ntmps19
      go_upto_region 1 with fail
      clear hW0
      go_wp2_with fail
      refine KO.out.mono ?_
      rintro e w1 ⟨rfl, hb1⟩
      have HK1 := Hid.intro (k_trans HP.out.1 hb1)
      clear hb1 KO b0 b1 b2 b3 b4 HP
      go_wp2_with fail
      refine (HIn.out _).mono ?_
      rintro e w2 ⟨rfl, rfl⟩
      go_wp2
      go_ret
      exact ⟨_, rfl, by rw [HE.out]; exact row_lit0 _ _ HK1.out.size, k_alloc HK1.out _⟩
    | true =>
      have K3 := Hid.intro (fun W h => l3Of_g ac ar cc cr t hD htk W (z := z) h)
      have hw : 0 ≤ width ∧ width ≤ 300 := by simpa [inB] using hin
      have KL := Hid.intro (fun ag cg W zg h1 h2 h3 => specl6Cols ac ar cc cr t hD ag cg width hw htk W (z := z) (zg := zg) h1 h2 h3)
      have HE : Hid (widT t width = widL t width) := by rw [Hid, widT, htk, hin]; rfl
      rw [hin] at HIn
      clear htk hin hD
      go_enter Tryz.func19, Tryz.ntmps19
      go_upto_region 1 with fail
      clear hW0
      go_wp2_with fail
      refine KO.out.mono ?_
      rintro e w1 ⟨rfl, hb1⟩
      have HP1 : Hid (Below w.heap.size w w1 ∧ TA w1 z ac ar cc cr t ∧ w1.heap[w.heap.size]? = some (.cells #[.slice ac t.cols.length cc, .int .i64 t.head, .int .i64 t.foot, .slice ar t.rows.length cr, .int .i64 t.gap] 26)) := ⟨k_trans HP.out.1 hb1, HP.out.2.1.kept hb1, (hb1.block _ (Array.getElem?_eq_some_iff.1 HP.out.2.2).1).trans HP.out.2.2⟩
      clear hb1 KO b0 b1 b2 b3 b4 HP
      go_wp2_with fail
      refine (HIn.out _).mono ?_
      rintro e w1 ⟨rfl, rfl⟩
      go_upto_region 3 with fail
      obtain ⟨b0, b1, b2, b3, b4⟩ := fiveO HP1.out.2.2
      have ht1 := (Array.getElem?_eq_some_iff.1 HP1.out.2.2).1
      have HTd : Hid (TA w1.drew z ac ar cc cr t) := HP1.out.2.1.kept (k_drew (Below.refl _ _))
      have HBd := Hid.intro (k_drew HP1.out.1)
      have HXd : Hid (w1.drew.heap[w.heap.size]? = some (.cells #[.slice ac t.cols.length cc, .int .i64 t.head, .int .i64 t.foot, .slice ar t.rows.length cr, .int .i64 t.gap] 26)) := HP1.out.2.2
      go_region_with (first
        | (go_at_call 32; refine (K3.out _ HTd.out.2).mono ?_; rintro e w2 ⟨ag, cg, rfl, hG2, hb2⟩; have HG2 := Hid.intro hG2; have HT2 := Hid.intro (HTd.out.kept hb2); have HB2 := Hid.intro (k_trans HBd.out hb2); have HX2 := Hid.intro ((hb2.block _ (Array.getElem?_eq_some_iff.1 HXd.out).1).trans HXd.out); clear hG2 hb2; obtain ⟨p0, p1, p2, p3, p4⟩ := fiveO HX2.out; have ht2 := (Array.getElem?_eq_some_iff.1 HX2.out).1)
        | (go_at_call 50; refine (KL.out ag cg _ _ HT2.out.1 HT2.out.2 HG2.out).mono ?_; rintro e w3 ⟨v3, rfl, hr3, hb3⟩; have R3 := Hid.intro (hr3.base (B' := w.heap.size) HB2.out.size (Nat.le_refl _)); have HB3 := Hid.intro (k_trans HB2.out hb3); clear hr3 hb3))
      all_goals
        go_wp2
        go_ret
        exact ⟨_, rfl, by rw [HE.out]; exact R3.out, HB3.out⟩
end Go.Proofs.YtkppaokkopfklaeGreat
namespace Go.Proofs.YtkppaokkopfklaeGreat
open Go.RowKit

set_option maxRecDepth 100000 in
set_option maxHeartbeats 1000000 in
theorem specGrdOf (ac ar : Option Addr) (cc cr : Nat) (t : T) (hD : Drawn t) (w : World) {z : Nat} (hc : ColsAt w z (.slice ac t.cols.length cc) t.cols) (hr : RowsAt w z (.slice ar t.rows.length cr) t.rows) :
    Calls Tryz.prog 111 #[.agg #[.slice ac t.cols.length cc, .int .i64 t.head, .int .i64 t.foot, .slice ar t.rows.length cr, .int .i64 t.gap]] w fun e w' => ∃ vg, e = .returned (.agg #[.int .i64 (gOf t).rows, .int .i64 (gOf t).cols, vg]) ∧ OwnG w' w.heap.size vg (gOf t).cells ∧ Below w.heap.size w w' := by
  obtain ⟨W0, hW0⟩ : ∃ W0, (w.alloc (.cells #[.slice ac t.cols.length cc, .int .i64 t.head, .int .i64 t.foot, .slice ar t.rows.length cr, .int .i64 t.gap] 26)).alloc (.cells #[.int .i64 0, .int .i64 0, .slice none 0 0] 36) = W0 := ⟨_, rfl⟩
  have K0 : Below w.heap.size w W0 := by rw [← hW0]; exact k_alloc (k_alloc (Below.refl _ _) _) _
  have hz0 : W0.heap.size = w.heap.size + 2 := by rw [← hW0]; simp
  have T0 : W0.heap[w.heap.size]? = some (.cells #[.slice ac t.cols.length cc, .int .i64 t.head, .int .i64 t.foot, .slice ar t.rows.length cr, .int .i64 t.gap] 26) := by rw [← hW0]; exact (Below.heap_alloc _ _ _ (by simp)).trans (newestB _ _)
  have X0 : W0.heap[w.heap.size + 1]? = some (.cells #[.int .i64 0, .int .i64 0, .slice none 0 0] 36) := by
    have := newestB (w.alloc (.cells #[.slice ac t.cols.length cc, .int .i64 t.head, .int .i64 t.foot, .slice ar t.rows.length cr, .int .i64 t.gap] 26)) (.cells #[.int .i64 0, .int .i64 0, .slice none 0 0] 36)
    rw [hW0] at this
    simpa using this
  have KO := Hid.intro (specTblOk ac ar cc cr t W0 (hc.kept K0) (hr.kept K0))
  have HR := Hid.intro hr
  obtain ⟨⟨t0, t1, t2, t3, t4⟩, _⟩ := fiveT T0
  clear hc hr
  cases htk : tblB t with
  | false =>
    rw [htk] at KO
    have hg : gOf t = ⟨0, 0, []⟩ := by unfold gOf; rw [if_neg (by rw [htk]; simp)]
    have HG := Hid.intro hg
    clear htk hg hD
    go_enter Tryz.func111, Tryz.ntmps111
    go_wp2_with fail
    refine KO.out.mono ?_
    rintro e w1 ⟨rfl, hb1⟩
    have X1 := blk_kept X0 hb1
    have K1 := k_trans K0 hb1
    obtain ⟨⟨x0, x1, x2⟩, y0, y1, y2⟩ := threeZ X1
    have HB := Hid.intro (((K1.setCell (p := ⟨w.heap.size + 1, 0, none⟩) (by show _ ≤ w.heap.size + 1; omega) (.int .i64 0)).setCell (p := ⟨w.heap.size + 1, 1, none⟩) (by show _ ≤ w.heap.size + 1; omega) (.int .i64 0)).setCell (p := ⟨w.heap.size + 1, 2, none⟩) (by show _ ≤ w.heap.size + 1; omega) (.slice none 0 0))
    clear hb1 K1 X1 KO hW0 t0 t1 t2 t3 t4
    go_wp2
    exact bodyPost_ret (v := .agg #[.int .i64 0, .int .i64 0, .slice none 0 0]) (by simp [results, Tryz.results111, go_sem, x0, x1, x2]) rfl ⟨.slice none 0 0, by rw [HG.out], by rw [HG.out]; exact ⟨rfl, .inl ⟨rfl, rfl⟩⟩, HB.out⟩
  | true =>
    rw [htk] at KO
    have hg : gOf t = ⟨t.rows.length, colsOf (max 1 (t.cols.length : Int)) (gridOf t), gridOf t⟩ := by unfold gOf; rw [if_pos htk]
    have HG := Hid.intro hg
    have HLow := Hid.intro (low_of htk hD)
    clear htk hg hD
    go_enter Tryz.func111, Tryz.ntmps111
    go_wp2_with fail
    refine KO.out.mono ?_
    rintro e w1 ⟨rfl, hb1⟩
    have X1 := blk_kept X0 hb1
    have T1 := blk_kept T0 hb1
    have K1 := k_trans K0 hb1
    obtain ⟨⟨s0, s1, s2, s3, s4⟩, _⟩ := fiveT T1
    clear KO hW0 t0 t1 t2 t3 t4
    go_wp2_with fail
    refine (l3Of_any ac ar cc cr t HLow.out w1 (HR.out.kept K1)).mono ?_
    rintro e w2 ⟨vg, rfl, hO2, hb2⟩
    have X2 := blk_kept X1 hb2
    have K2 := k_trans K1 hb2
    obtain ⟨va, vq, rfl, _⟩ := row_form hO2
    obtain ⟨⟨x0, x1, x2⟩, y0, y1, y2⟩ := threeZ X2
    have h1 := setB (p := 0) X2 (.int .i64 (t.rows.length : Int))
    have h2 := setB (p := 1) h1 (.int .i64 (colsOf (max 1 (t.cols.length : Int)) (gridOf t)))
    have o1 := row_set (p := 0) hO2 X2 (by decide) (.int .i64 (t.rows.length : Int))
    have o2 := row_set (p := 1) o1 h1 (by decide) (.int .i64 (colsOf (max 1 (t.cols.length : Int)) (gridOf t)))
    have o3 := row_set (p := 2) o2 h2 (by decide) (.slice va (gridOf t).length vq)
    have hz1 : w.heap.size ≤ w1.heap.size := K1.size
    have HO := Hid.intro (row_base o3 hz1)
    have HB := Hid.intro (((K2.setCell (p := ⟨w.heap.size + 1, 0, none⟩) (by show _ ≤ w.heap.size + 1; omega) (.int .i64 (t.rows.length : Int))).setCell (p := ⟨w.heap.size + 1, 1, none⟩) (by show _ ≤ w.heap.size + 1; omega) (.int .i64 (colsOf (max 1 (t.cols.length : Int)) (gridOf t)))).setCell (p := ⟨w.heap.size + 1, 2, none⟩) (by show _ ≤ w.heap.size + 1; omega) (.slice va (gridOf t).length vq))
    clear h1 h2 o1 o2 o3 hO2 hb2 X2 K2 s0 s1 s2 s3 s4 X1 T1 K1 hb1 X0 T0
    generalize hC : colsOf (max 1 (t.cols.length : Int)) (gridOf t) = C at HG HO HB ⊢
    clear hC
    go_wp2
    exact bodyPost_ret (v := .agg #[.int .i64 (t.rows.length : Int), .int .i64 C, .slice va (gridOf t).length vq]) (by simp [results, Tryz.results111, go_sem, x0, x1, x2]) rfl ⟨_, by rw [HG.out], by rw [HG.out]; exact HO.out, HB.out⟩
end Go.Proofs.YtkppaokkopfklaeGreat
