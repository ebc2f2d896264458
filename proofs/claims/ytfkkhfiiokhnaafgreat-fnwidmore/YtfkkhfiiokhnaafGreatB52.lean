/-
  PROVED HERE: the program's ColFloor at a drawn table; nothing that was in memory is turned. Also: the program's ColAllFixed at a drawn table; nothing that was in memory is turned. Also: what the model's GrdOf answers at a drawn table: its cells at their places, or nothing where it is not ok; nothing that was in memory is turned.
-/
import Derived.Test.YtfkkhfiiokhnaafGreatB42
import Derived.Test.YtfkkhfiiokhnaafGreatB26
import Derived.Test.YtfkkhfiiokhnaafGreatB46
import Derived.Test.YtfkkhfiiokhnaafGreatB22
import Derived.Test.YtfkkhfiiokhnaafGreatB38
import Derived.Test.YtfkkhfiiokhnaafGreatB37
import Derived.Test.YtfkkhfiiokhnaafGreatB20
import Derived.Test.YtfkkhfiiokhnaafGreatB19
import Derived.Test.YtfkkhfiiokhnaafGreatB15
import Derived.Deep.RegionWith
namespace Go.Proofs.YtfkkhfiiokhnaafGreat
open Go.RowKit

set_option maxRecDepth 100000 in
set_option maxHeartbeats 2000000 in
theorem implColFloor (ac ar : Option Addr) (cc cr : Nat) (t : T) (hD : Drawn t) (w : World) {z : Nat} (hc : ColsAt w z (.slice ac t.cols.length cc) t.cols) (hr : RowsAt w z (.slice ar t.rows.length cr) t.rows) :
    Calls Tryz.prog 15 #[.agg #[.slice ac t.cols.length cc, .int .i64 t.head, .int .i64 t.foot, .slice ar t.rows.length cr, .int .i64 t.gap]] w fun e w' => e = .returned (.int .i64 (acrV (leastL t) t.gap)) ∧ Below w.heap.size w w' := by
  obtain ⟨W0, hW0⟩ : ∃ W0, w.alloc (.cells #[.slice ac t.cols.length cc, .int .i64 t.head, .int .i64 t.foot, .slice ar t.rows.length cr, .int .i64 t.gap] 26) = W0 := ⟨_, rfl⟩
  have K0 : Below w.heap.size w W0 := by rw [← hW0]; exact k_alloc (Below.refl _ _) _
  have X0 : W0.heap[w.heap.size]? = some (.cells #[.slice ac t.cols.length cc, .int .i64 t.head, .int .i64 t.foot, .slice ar t.rows.length cr, .int .i64 t.gap] 26) := by rw [← hW0]; exact newestB _ _
  have HX := Hid.intro X0
  have HK0 := Hid.intro K0
  have HMd := Hid.intro (And.intro ((hc.kept K0).kept (k_drew (Below.refl _ _))) ((hr.kept K0).kept (k_drew (Below.refl _ _))))
  have HKd := Hid.intro (k_drew (Below.refl W0.heap.size W0))
  obtain ⟨o0, o1, o2, o3, o4⟩ := fiveO X0
  have l0 := (Array.getElem?_eq_some_iff.1 X0).1
  clear hc hr K0 X0
  go_enter Tryz.func15, Tryz.ntmps15
  go_upto_region 1 with fail
  clear hW0
  go_region_with (first
    | (go_at_call 13; refine (implColLeast ac ar cc cr t hD _ HMd.out.1 HMd.out.2).mono ?_; rintro e w1 ⟨v1, rfl, hR, hb1⟩; obtain ⟨al, cl, rfl⟩ := hR.form; have HI := Hid.intro hR.at; have hb1' := k_trans HKd.out hb1; obtain ⟨q0, q1, q2, q3, q4⟩ := fiveO ((hb1'.block _ l0).trans HX.out); have HB1 := Hid.intro (k_trans HK0.out hb1'); clear hR hb1 hb1')
    | (go_at_call 36; refine (implacrossAll _ (leastL t) t.gap _ HI.out).mono ?_; rintro e w2 ⟨rfl, rfl⟩))
  all_goals
    go_wp2
    go_ret
    exact ⟨rfl, HB1.out⟩
end Go.Proofs.YtfkkhfiiokhnaafGreat
namespace Go.Proofs.YtfkkhfiiokhnaafGreat
open Go.RowKit

theorem fieldG1 (a b c : Value) (W : World) : (Instr.field 46 (.agg #[a, b, c]) 1).run Tryz.prog W = .ok b W := by
  kernel_rfl
theorem allFix_no {t : T} {k : Nat} (hk : k < colN t) (h : ¬ (sd t.cols k).1 = 1) : allFix t = false := by
  unfold allFix
  rw [List.all_eq_false]
  exact ⟨k, List.mem_range.2 hk, by simp [kindP, h]⟩
theorem allFix_yes {t : T} (h : ∀ i, i < colN t → (sd t.cols (i : Nat)).1 = 1) : allFix t = true := by
  unfold allFix
  rw [List.all_eq_true]
  intro k hk
  simp [kindP, h k (List.mem_range.1 hk)]
set_option maxRecDepth 100000 in
set_option maxHeartbeats 2000000 in
theorem implColAllFixed (ac ar : Option Addr) (cc cr : Nat) (t : T) (hD : Drawn t) (w : World) {z : Nat} (hc : ColsAt w z (.slice ac t.cols.length cc) t.cols) (hr : RowsAt w z (.slice ar t.rows.length cr) t.rows) :
    Calls Tryz.prog 20 #[.agg #[.slice ac t.cols.length cc, .int .i64 t.head, .int .i64 t.foot, .slice ar t.rows.length cr, .int .i64 t.gap]] w fun e w' => e = .returned (.bool (tblB t && allFix t)) ∧ Below w.heap.size w w' := by
  have hf0 := field0
  have hf1 := fieldG1
  obtain ⟨_, C, hgc, hC88, _⟩ := cel_of hD
  have HCN := Hid.intro (colN_of hgc)
  have HM : Hid (∀ W, Below w.heap.size w W → ColsAt W z (.slice ac t.cols.length cc) t.cols ∧ RowsAt W z (.slice ar t.rows.length cr) t.rows) := fun W k => ⟨hc.kept k, hr.kept k⟩
  have K0 : Hid (Below w.heap.size w (w.alloc (.cells #[.slice ac t.cols.length cc, .int .i64 t.head, .int .i64 t.foot, .slice ar t.rows.length cr, .int .i64 t.gap] 26))) := k_alloc (Below.refl _ _) _
  have X0 : Hid ((w.alloc (.cells #[.slice ac t.cols.length cc, .int .i64 t.head, .int .i64 t.foot, .slice ar t.rows.length cr, .int .i64 t.gap] 26)).heap[w.heap.size]? = some (.cells #[.slice ac t.cols.length cc, .int .i64 t.head, .int .i64 t.foot, .slice ar t.rows.length cr, .int .i64 t.gap] 26)) := newestB _ _
  have KO := Hid.intro (implTblOk ac ar cc cr t _ (HM.out _ K0.out).1 (HM.out _ K0.out).2)
  have HDr := Hid.intro hD
  have HS := Hid.intro (fun (k : Nat) (W : World) (h : Below w.heap.size w W) => implsaidOf (.slice ac t.cols.length cc) t.cols (k : Int) W (HM.out W h).1)
  clear hc hr hD
  cases htk : tblB t with
  | false =>
    rw [htk] at KO
    clear htk
    go_enter Tryz.func20, Tryz.ntmps20
    go_wp2_with fail
    refine KO.out.mono ?_
    rintro e w1 ⟨rfl, hb1⟩
    have K1 := Hid.intro (k_trans K0.out hb1)
    clear hb1 KO
    go_wp2
    go_ret
    exact ⟨rfl, K1.out⟩
  | true =>
    rw [htk] at KO
    clear htk
    have hN : (gOf t).cols = (C : Int) := hgc
    have HgC := Hid.intro hgc
    clear hN hgc
    go_enter Tryz.func20, Tryz.ntmps20
    go_wp2_with fail
    refine KO.out.mono ?_
    rintro e w1 ⟨rfl, hb1⟩
    have K1 := Hid.intro (k_trans K0.out hb1)
    have X1 := Hid.intro ((hb1.block w.heap.size (by simp)).trans X0.out)
    obtain ⟨b0, b1, b2, b3, b4⟩ := fiveO X1.out
    have l1 := (Array.getElem?_eq_some_iff.1 X1.out).1
    clear hb1 KO X0 K0
    go_wp2_with fail
    refine (implGrdOf ac ar cc cr t HDr.out _ (HM.out _ K1.out).1 (HM.out _ K1.out).2).mono ?_
    rw [HgC.out]
    rintro e w2 ⟨vg, rfl, hO2, hb2⟩
    obtain ⟨ag, cg, rfl⟩ := own_slice hO2
    have K2 := Hid.intro (k_trans K1.out hb2)
    have X2 := Hid.intro ((hb2.block w.heap.size l1).trans X1.out)
    clear hb2 hO2 b0 b1 b2 b3 b4 l1 X1 K1
    go_wp2_with fail
    go_loopw [10] (fun i W => ∃ k : Nat, k ≤ C ∧ i = .int .i64 k ∧ Hid (∀ j, j < k → (sd t.cols (j : Nat)).1 = 1) ∧ Hid (Below w.heap.size w W) ∧ Hid (W.heap[w.heap.size]? = some (.cells #[.slice ac t.cols.length cc, .int .i64 t.head, .int .i64 t.foot, .slice ar t.rows.length cr, .int .i64 t.gap] 26))) (fun i _ => C - (intOf i).toNat)
    case atStart => exact ⟨0, Nat.zero_le _, rfl, fun j hj => absurd hj (Nat.not_lt_zero _), K2, X2⟩
    case round =>
      obtain ⟨k, hk, rfl, HA, HB, HX⟩ := hrel
      by_cases hlt : k < C
      · have HN : Hid (¬ (sd t.cols (k : Nat)).1 = 1 → allFix t = false) := fun h => allFix_no (by rw [HCN.out]; exact hlt) h
        have HY : Hid ((sd t.cols (k : Nat)).1 = 1 → ∀ j, j < k + 1 → (sd t.cols (j : Nat)).1 = 1) := fun h j hj => by
          rcases Nat.lt_or_eq_of_le (Nat.lt_succ_iff.1 hj) with h1 | rfl
          · exact HA.out j h1
          · exact h
        have KS := Hid.intro (HS.out k wr HB.out)
        generalize sd t.cols (k : Int) = p at HN HY KS
        obtain ⟨b0, b1, b2, b3, b4⟩ := fiveO HX.out
        have l1 := (Array.getElem?_eq_some_iff.1 HX.out).1
        go_wp2_with fail
        refine KS.out.mono ?_
        rintro e w3 ⟨rfl, hb3⟩
        have K3 := Hid.intro (k_trans HB.out hb3)
        have X3 := Hid.intro ((hb3.block w.heap.size l1).trans HX.out)
        clear hb3 b0 b1 b2 b3 b4 l1 KS
        by_cases h1 : p.1 = 1
        · have hne : (p.1 != 1) = false := by rw [h1]; rfl
          have HZ := Hid.intro (HY.out h1)
          clear h1 HY HN HA
          go_wp2
          go_roundw
          case rel => exact ⟨k + 1, by omega, by go_num, HZ, K3, X3⟩
          case measure => simp [intOf]; omega
        · have hne : (p.1 != 1) = true := bne_iff_ne.2 h1
          have HZ := Hid.intro (HN.out h1)
          clear h1 HY HN HA
          go_wp2
          go_ret
          exact ⟨by rw [HZ.out]; rfl, K3.out⟩
      · obtain rfl : k = C := by omega
        have HZ : Hid (allFix t = true) := allFix_yes (fun i hi => HA.out i (by rw [HCN.out] at hi; exact hi))
        clear HA
        go_wp2
        go_ret
        exact ⟨by rw [HZ.out]; rfl, HB.out⟩
end Go.Proofs.YtfkkhfiiokhnaafGreat
namespace Go.Proofs.YtfkkhfiiokhnaafGreat
open Go.RowKit

set_option maxRecDepth 100000 in
set_option maxHeartbeats 1000000 in
theorem specGrdOf (ac ar : Option Addr) (cc cr : Nat) (t : T) (hD : Drawn t) (w : World) {z : Nat} (hc : ColsAt w z (.slice ac t.cols.length cc) t.cols) (hr : RowsAt w z (.slice ar t.rows.length cr) t.rows) :
    Calls Tryz.prog 105 #[.agg #[.slice ac t.cols.length cc, .int .i64 t.head, .int .i64 t.foot, .slice ar t.rows.length cr, .int .i64 t.gap]] w fun e w' => ∃ vg, e = .returned (.agg #[.int .i64 (gOf t).rows, .int .i64 (gOf t).cols, vg]) ∧ OwnG w' w.heap.size vg (gOf t).cells ∧ Below w.heap.size w w' := by
  obtain ⟨W0, hW0⟩ : ∃ W0, (w.alloc (.cells #[.slice ac t.cols.length cc, .int .i64 t.head, .int .i64 t.foot, .slice ar t.rows.length cr, .int .i64 t.gap] 26)).alloc (.cells #[.int .i64 0, .int .i64 0, .slice none 0 0] 46) = W0 := ⟨_, rfl⟩
  have K0 : Below w.heap.size w W0 := by rw [← hW0]; exact k_alloc (k_alloc (Below.refl _ _) _) _
  have hz0 : W0.heap.size = w.heap.size + 2 := by rw [← hW0]; simp
  have T0 : W0.heap[w.heap.size]? = some (.cells #[.slice ac t.cols.length cc, .int .i64 t.head, .int .i64 t.foot, .slice ar t.rows.length cr, .int .i64 t.gap] 26) := by rw [← hW0]; exact (Below.heap_alloc _ _ _ (by simp)).trans (newestB _ _)
  have X0 : W0.heap[w.heap.size + 1]? = some (.cells #[.int .i64 0, .int .i64 0, .slice none 0 0] 46) := by
    have := newestB (w.alloc (.cells #[.slice ac t.cols.length cc, .int .i64 t.head, .int .i64 t.foot, .slice ar t.rows.length cr, .int .i64 t.gap] 26)) (.cells #[.int .i64 0, .int .i64 0, .slice none 0 0] 46)
    rw [hW0] at this
    simpa using this
  have KO := Hid.intro (specTblOk ac ar cc cr t W0 (hc.kept K0) (hr.kept K0))
  have HR := Hid.intro hr
  obtain ⟨⟨t0, t1, t2, t3, t4⟩, _⟩ := fiveT T0
  clear hc hr
  cases htk : tblB t with
  | false =>
    rw [htk] at KO
    have hg : gOf t = ⟨0, 0, []⟩ := by unfold gOf; rw [if_neg (by rw [htk]; simp)]
    have HG := Hid.intro hg
    clear htk hg hD
    go_enter Tryz.func105, Tryz.ntmps105
    go_wp2_with fail
    refine KO.out.mono ?_
    rintro e w1 ⟨rfl, hb1⟩
    have X1 := blk_kept X0 hb1
    have K1 := k_trans K0 hb1
    obtain ⟨⟨x0, x1, x2⟩, y0, y1, y2⟩ := threeZ X1
    have HB := Hid.intro (((K1.setCell (p := ⟨w.heap.size + 1, 0, none⟩) (by show _ ≤ w.heap.size + 1; omega) (.int .i64 0)).setCell (p := ⟨w.heap.size + 1, 1, none⟩) (by show _ ≤ w.heap.size + 1; omega) (.int .i64 0)).setCell (p := ⟨w.heap.size + 1, 2, none⟩) (by show _ ≤ w.heap.size + 1; omega) (.slice none 0 0))
    clear hb1 K1 X1 KO hW0 t0 t1 t2 t3 t4
    go_wp2
    exact bodyPost_ret (v := .agg #[.int .i64 0, .int .i64 0, .slice none 0 0]) (by simp [results, Tryz.results105, go_sem, x0, x1, x2]) rfl ⟨.slice none 0 0, by rw [HG.out], by rw [HG.out]; exact ⟨rfl, .inl ⟨rfl, rfl⟩⟩, HB.out⟩
  | true =>
    rw [htk] at KO
    have hg : gOf t = ⟨t.rows.length, colsOf (max 1 (t.cols.length : Int)) (gridOf t), gridOf t⟩ := by unfold gOf; rw [if_pos htk]
    have HG := Hid.intro hg
    have HLow := Hid.intro (low_of htk hD)
    clear htk hg hD
    go_enter Tryz.func105, Tryz.ntmps105
    go_wp2_with fail
    refine KO.out.mono ?_
    rintro e w1 ⟨rfl, hb1⟩
    have X1 := blk_kept X0 hb1
    have T1 := blk_kept T0 hb1
    have K1 := k_trans K0 hb1
    obtain ⟨⟨s0, s1, s2, s3, s4⟩, _⟩ := fiveT T1
    clear KO hW0 t0 t1 t2 t3 t4
    go_wp2_with fail
    refine (l3Of_any ac ar cc cr t HLow.out w1 (HR.out.kept K1)).mono ?_
    rintro e w2 ⟨vg, rfl, hO2, hb2⟩
    have X2 := blk_kept X1 hb2
    have K2 := k_trans K1 hb2
    obtain ⟨va, vq, rfl, _⟩ := row_form hO2
    obtain ⟨⟨x0, x1, x2⟩, y0, y1, y2⟩ := threeZ X2
    have h1 := setB (p := 0) X2 (.int .i64 (t.rows.length : Int))
    have h2 := setB (p := 1) h1 (.int .i64 (colsOf (max 1 (t.cols.length : Int)) (gridOf t)))
    have o1 := row_set (p := 0) hO2 X2 (by decide) (.int .i64 (t.rows.length : Int))
    have o2 := row_set (p := 1) o1 h1 (by decide) (.int .i64 (colsOf (max 1 (t.cols.length : Int)) (gridOf t)))
    have o3 := row_set (p := 2) o2 h2 (by decide) (.slice va (gridOf t).length vq)
    have hz1 : w.heap.size ≤ w1.heap.size := K1.size
    have HO := Hid.intro (row_base o3 hz1)
    have HB := Hid.intro (((K2.setCell (p := ⟨w.heap.size + 1, 0, none⟩) (by show _ ≤ w.heap.size + 1; omega) (.int .i64 (t.rows.length : Int))).setCell (p := ⟨w.heap.size + 1, 1, none⟩) (by show _ ≤ w.heap.size + 1; omega) (.int .i64 (colsOf (max 1 (t.cols.length : Int)) (gridOf t)))).setCell (p := ⟨w.heap.size + 1, 2, none⟩) (by show _ ≤ w.heap.size + 1; omega) (.slice va (gridOf t).length vq))
    clear h1 h2 o1 o2 o3 hO2 hb2 X2 K2 s0 s1 s2 s3 s4 X1 T1 K1 hb1 X0 T0
    generalize hC : colsOf (max 1 (t.cols.length : Int)) (gridOf t) = C at HG HO HB ⊢
    clear hC
    go_wp2
    exact bodyPost_ret (v := .agg #[.int .i64 (t.rows.length : Int), .int .i64 C, .slice va (gridOf t).length vq]) (by simp [results, Tryz.results105, go_sem, x0, x1, x2]) rfl ⟨_, by rw [HG.out], by rw [HG.out]; exact HO.out, HB.out⟩
end Go.Proofs.YtfkkhfiiokhnaafGreat
