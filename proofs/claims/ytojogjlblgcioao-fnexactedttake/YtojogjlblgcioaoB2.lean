/-
  PROVED HERE: what the laws' own toBrdLine, toTblCell and szTblCell answer; nothing that was in memory is turned. Also: what the laws' own szTblCellS, szTblRow, szTblRowS, szTblColS and szTblTable answer; nothing that was in memory is turned.
-/
import Derived.Test.YtojogjlblgcioaoB1
import Derived.WalkLawsBesides
import Derived.WalkSpells
namespace Go.Proofs.Ytojogjlblgcioao
open Go.RowKit

theorem toBrdLine_any (a b : Int) (w : World) :
    Calls Try.prog 51 #[.agg #[.int .i64 a, .int .i64 b]] w fun e w' => e = .returned (.agg #[.int .i64 a, .int .i64 b]) ∧ Below w.heap.size w w' := by
  go_enter Try.func51, Try.ntmps51
  go_wp2
  refine bodyPost_ret (v := .agg #[.int .i64 a, .int .i64 b]) (by simp [results, Try.results51, go_sem]) rfl ⟨rfl, ?_⟩
  exact k_alloc (k_alloc (k_alloc (Below.refl _ _) _) _) _

set_option maxRecDepth 100000 in
set_option maxHeartbeats 1000000 in
theorem toTblCell_any (s : ByteArray) (c r a1 b1 a2 b2 a3 b3 a4 b4 : Int) (w : World) :
    Calls Try.prog 24 #[.agg #[.string s, .int .i64 c, .int .i64 r, .int .i64 a1, .int .i64 b1, .int .i64 a2, .int .i64 b2, .int .i64 a3, .int .i64 b3, .int .i64 a4, .int .i64 b4]] w
      fun e w' => e = .returned (.agg #[.string s, .int .i64 c, .int .i64 r, .int .i64 a1, .int .i64 b1, .int .i64 a2, .int .i64 b2, .int .i64 a3, .int .i64 b3, .int .i64 a4, .int .i64 b4]) ∧ Below w.heap.size w w' := by
  go_enter Try.func24, Try.ntmps24
  go_wp2_with fail
  refine (toBrdLine_any _ _ _).mono ?_
  rintro e w1 ⟨rfl, hb1⟩
  obtain ⟨hc1, hf1⟩ := bcell hb1
  have hz1 : w.heap.size + 1 + 1 < w1.heap.size := by have := hb1.size; simp at this; omega
  have hy1 : w.heap.size + 1 < w1.heap.size := by omega
  have hx1 : w.heap.size < w1.heap.size := by omega
  go_wp2_with fail
  refine (toBrdLine_any _ _ _).mono ?_
  rintro e w2 ⟨rfl, hb2⟩
  obtain ⟨hc2, hf2⟩ := bcell hb2
  have hz2 : w.heap.size + 1 + 1 < w2.heap.size := by have := hb2.size; simp at this; omega
  have hy2 : w.heap.size + 1 < w2.heap.size := by omega
  have hx2 : w.heap.size < w2.heap.size := by omega
  go_wp2_with fail
  refine (toBrdLine_any _ _ _).mono ?_
  rintro e w3 ⟨rfl, hb3⟩
  obtain ⟨hc3, hf3⟩ := bcell hb3
  have hz3 : w.heap.size + 1 + 1 < w3.heap.size := by have := hb3.size; simp at this; omega
  have hy3 : w.heap.size + 1 < w3.heap.size := by omega
  have hx3 : w.heap.size < w3.heap.size := by omega
  go_wp2_with fail
  refine (toBrdLine_any _ _ _).mono ?_
  rintro e w4 ⟨rfl, hb4⟩
  obtain ⟨hc4, hf4⟩ := bcell hb4
  have hz4 : w.heap.size + 1 + 1 < w4.heap.size := by have := hb4.size; simp at this; omega
  have hy4 : w.heap.size + 1 < w4.heap.size := by omega
  have hx4 : w.heap.size < w4.heap.size := by omega
  go_wp2
  refine bodyPost_ret (v := .agg #[.string s, .int .i64 c, .int .i64 r, .int .i64 a1, .int .i64 b1, .int .i64 a2, .int .i64 b2, .int .i64 a3, .int .i64 b3, .int .i64 a4, .int .i64 b4]) (by simp [results, Try.results24, go_sem, hc1, hc2, hc3, hc4, hy1, hy2, hy3]) rfl ⟨rfl, ?_⟩
  repeat refine k_set ?_ (by dsimp only; omega) _
  refine k_trans ?_ hb4
  repeat refine k_set ?_ (by dsimp only; omega) _
  refine k_trans ?_ hb3
  repeat refine k_set ?_ (by dsimp only; omega) _
  refine k_trans ?_ hb2
  repeat refine k_set ?_ (by dsimp only; omega) _
  refine k_trans ?_ hb1
  exact k_alloc (k_alloc (k_alloc (Below.refl _ _) _) _) _

set_option maxRecDepth 100000 in
theorem szTblCell_any (s : ByteArray) (c r a1 b1 a2 b2 a3 b3 a4 b4 : Int) (n : Int) (hn : n ≤ 1048576) (h0 : 0 ≤ n) (hs : s.size ≤ maxLen) (w : World) :
    Calls Try.prog 21 #[.agg #[.string s, .int .i64 c, .int .i64 r, .int .i64 a1, .int .i64 b1, .int .i64 a2, .int .i64 b2, .int .i64 a3, .int .i64 b3, .int .i64 a4, .int .i64 b4], .int .i64 n] w
      fun e w' => e = .returned (.int .i64 (if (s.size : Int) ≤ n then n - s.size else -1)) ∧ Below w.heap.size w w' := by
  unfold maxLen at hs
  by_cases h : (s.size : Int) ≤ n
  · rw [if_pos h]
    have h' : ¬ n - (s.size : Int) < 0 := by omega
    go_enter Try.func21, Try.ntmps21
    go_wp2
    go_ret
    exact ⟨rfl, k_alloc (Below.refl _ _) _⟩
  · rw [if_neg h]
    have h' : n - (s.size : Int) < 0 := by omega
    go_enter Try.func21, Try.ntmps21
    go_wp2
    go_ret
    exact ⟨rfl, k_alloc (Below.refl _ _) _⟩
end Go.Proofs.Ytojogjlblgcioao
namespace Go.Proofs.Ytojogjlblgcioao
open Go.RowKit

set_option maxRecDepth 100000 in
set_option maxHeartbeats 1000000 in
theorem szTblCellS_any (v : Value) (cs : List C) (n : Int) (h0 : 0 ≤ n) (hn : n ≤ 1048576) (w : World) {z : Nat} (h : CellsAt w z v cs) :
    Calls Try.prog 102 #[v, .int .i64 n] w fun e w' => e = .returned (.int .i64 (leftOf n (totC cs))) ∧ Below w.heap.size w w' := by
  obtain ⟨a, cap, rfl, hlen⟩ := At.form h
  unfold maxLen at hlen
  have HT := Hid.intro (totC_eq cs)
  have H := Hid.intro h
  clear h
  by_cases hl : (cs.length : Int) ≤ n
  · have hl' : ¬ n - (cs.length : Int) < 0 := by omega
    go_enter Try.func102, Try.ntmps102
    go_wp2_with fail
    go_loopw [1, 5] (fun l i W => ∃ k : Nat, k ≤ cs.length ∧ i = .int .i64 k ∧ l = .int .i64 (n - cs.length - szTo cs k) ∧ (szTo cs k : Int) ≤ n - cs.length ∧ Below w.heap.size w W) (fun _ i _ => cs.length - (intOf i).toNat)
    case atStart => exact ⟨0, Nat.zero_le _, rfl, by simp [szTo], by simp [szTo]; omega, Below.refl _ _⟩
    case round =>
      obtain ⟨k, hk, rfl, rfl, hle, hb⟩ := hrel
      have HB := Hid.intro hb
      clear hb
      by_cases hlt : k < cs.length
      · obtain ⟨b, off, cap', e', hc1, hc2, hbl, hx, hs⟩ := At.get (H.out.kept HB.out) hlt
        simp only [Value.slice.injEq, true_and] at e'
        obtain ⟨rfl, rfl⟩ := e'
        have HS := Hid.intro (szTo_succ hlt)
        generalize cs.getD k dC = x at hx hs HS
        obtain ⟨x0, x1, x2, x3, x4, x5, x6, x7, x8, x9, x10⟩ := hx
        unfold maxLen at hc2
        go_wp2_with fail
        refine (szTblCell_any _ _ _ _ _ _ _ _ _ _ _ _ (by omega) (by omega) hs _).mono ?_
        by_cases hy : (x.s.size : Int) ≤ n - cs.length - szTo cs k
        · rw [if_pos hy]
          rintro e w1 ⟨rfl, hb1⟩
          have HB1 := Hid.intro (k_trans HB.out hb1)
          have hg : ¬ n - (cs.length : Int) - (szTo cs k : Int) - (x.s.size : Int) < 0 := by omega
          clear hb1
          go_wp2
          go_roundw
          case rel => exact ⟨k + 1, by omega, by go_num, by rw [HS.out]; go_num, by rw [HS.out]; omega, HB1.out⟩
          case measure => simp [intOf]; omega
        · rw [if_neg hy]
          rintro e w1 ⟨rfl, hb1⟩
          have HB1 := Hid.intro (k_trans HB.out hb1)
          have HF : Hid (leftOf n (totC cs) = -1) := by
            have := szTo_le cs (k + 1)
            show leftOf n (totC cs) = -1
            rw [leftOf, HT.out, if_neg (by rw [HS.out] at this; omega)]
          clear hb1
          go_wp2
          go_ret
          exact ⟨by rw [HF.out]; rfl, HB1.out⟩
      · obtain rfl : k = cs.length := by omega
        have HF : Hid (leftOf n (totC cs) = n - cs.length - szTo cs cs.length) := by
          show leftOf n (totC cs) = _
          rw [leftOf, HT.out, if_pos (by omega)]; omega
        go_wp2
        go_ret
        exact ⟨by rw [HF.out]; rfl, HB.out⟩
  · have hl' : n - (cs.length : Int) < 0 := by omega
    have HF : Hid (leftOf n (totC cs) = -1) := by
      show leftOf n (totC cs) = -1
      rw [leftOf, HT.out, if_neg (by omega)]
    go_enter Try.func102, Try.ntmps102
    go_wp2
    go_ret
    exact ⟨by rw [HF.out]; rfl, Below.refl _ _⟩


set_option maxRecDepth 100000 in
set_option maxHeartbeats 1000000 in
theorem szTblRow_any (u : Value) (cs : List C) (q : Bool) (n : Int) (h0 : 0 ≤ n) (hn : n ≤ 1048576) (w : World) {z : Nat} (h : CellsAt w z u cs) :
    Calls Try.prog 76 #[.agg #[u, .bool q], .int .i64 n] w fun e w' => e = .returned (.int .i64 (leftOf n (totC cs))) ∧ Below w.heap.size w w' := by
  obtain ⟨a, cap, rfl, hlen⟩ := At.form h
  have H := Hid.intro (h.kept (k_alloc (Below.refl _ _) (.cells #[.slice a cs.length cap, .bool q] 117)))
  clear h
  by_cases hl : (totC cs : Int) ≤ n
  · have HF := Hid.intro (leftOf_pos hl)
    go_enter Try.func76, Try.ntmps76
    go_wp2_with fail
    refine (szTblCellS_any _ cs n h0 hn _ H.out).mono ?_
    rw [HF.out]
    rintro e w1 ⟨rfl, hb1⟩
    have hg : ¬ n - (totC cs : Int) < 0 := by omega
    have HB1 := Hid.intro (k_trans (k_alloc (Below.refl _ _) _) hb1)
    clear hb1
    go_wp2
    go_ret
    exact ⟨by rw [HF.out]; rfl, HB1.out⟩
  · have HF := Hid.intro (leftOf_neg hl)
    go_enter Try.func76, Try.ntmps76
    go_wp2_with fail
    refine (szTblCellS_any _ cs n h0 hn _ H.out).mono ?_
    rw [HF.out]
    rintro e w1 ⟨rfl, hb1⟩
    have HB1 := Hid.intro (k_trans (k_alloc (Below.refl _ _) _) hb1)
    clear hb1
    go_wp2
    go_ret
    exact ⟨by rw [HF.out]; rfl, HB1.out⟩

set_option maxRecDepth 100000 in
set_option maxHeartbeats 1000000 in
theorem szTblRowS_any (v : Value) (rs : List R) (n : Int) (h0 : 0 ≤ n) (hn : n ≤ 1048576) (w : World) {z : Nat} (h : RowsAt w z v rs) :
    Calls Try.prog 44 #[v, .int .i64 n] w fun e w' => e = .returned (.int .i64 (leftOf n (totR rs))) ∧ Below w.heap.size w w' := by
  obtain ⟨a, cap, rfl, hlen⟩ := At.form h
  unfold maxLen at hlen
  have HT := Hid.intro (totR_eq rs)
  have H := Hid.intro h
  clear h
  by_cases hl : (rs.length : Int) ≤ n
  · have hl' : ¬ n - (rs.length : Int) < 0 := by omega
    go_enter Try.func44, Try.ntmps44
    go_wp2_with fail
    go_loopw [1, 5] (fun l i W => ∃ k : Nat, k ≤ rs.length ∧ i = .int .i64 k ∧ l = .int .i64 (n - rs.length - rwTo rs k) ∧ (rwTo rs k : Int) ≤ n - rs.length ∧ Below w.heap.size w W) (fun _ i _ => rs.length - (intOf i).toNat)
    case atStart => exact ⟨0, Nat.zero_le _, rfl, by simp [rwTo], by simp [rwTo]; omega, Below.refl _ _⟩
    case round =>
      obtain ⟨k, hk, rfl, rfl, hle, hb⟩ := hrel
      have HB := Hid.intro hb
      clear hb
      by_cases hlt : k < rs.length
      · obtain ⟨b, off, cap', e', hc1, hc2, hbl, u, hx0, hx1, hx⟩ := At.get (H.out.kept HB.out) hlt
        simp only [Value.slice.injEq, true_and] at e'
        obtain ⟨rfl, rfl⟩ := e'
        have HS := Hid.intro (rwTo_succ hlt)
        generalize rs.getD k dR = x at hx1 hx HS
        obtain ⟨ua, ucap, rfl, hul⟩ := At.form hx
        have HX := Hid.intro hx
        unfold maxLen at hc2
        clear hx hul
        go_wp2_with fail
        refine (szTblRow_any _ x.cells x.whole _ (by omega) (by omega) _ HX.out).mono ?_
        by_cases hy : (totC x.cells : Int) ≤ n - rs.length - rwTo rs k
        · rw [leftOf_pos hy]
          rintro e w1 ⟨rfl, hb1⟩
          have HB1 := Hid.intro (k_trans HB.out hb1)
          have hg : ¬ n - (rs.length : Int) - (rwTo rs k : Int) - (totC x.cells : Int) < 0 := by omega
          clear hb1
          go_wp2
          go_roundw
          case rel => exact ⟨k + 1, by omega, by go_num, by rw [HS.out]; go_num, by rw [HS.out]; omega, HB1.out⟩
          case measure => simp [intOf]; omega
        · rw [leftOf_neg hy]
          rintro e w1 ⟨rfl, hb1⟩
          have HB1 := Hid.intro (k_trans HB.out hb1)
          have HF : Hid (leftOf n (totR rs) = -1) := by
            have := rwTo_le rs (k + 1)
            show leftOf n (totR rs) = -1
            rw [leftOf, HT.out, if_neg (by rw [HS.out] at this; omega)]
          clear hb1
          go_wp2
          go_ret
          exact ⟨by rw [HF.out]; rfl, HB1.out⟩
      · obtain rfl : k = rs.length := by omega
        have HF : Hid (leftOf n (totR rs) = n - rs.length - rwTo rs rs.length) := by
          show leftOf n (totR rs) = _
          rw [leftOf, HT.out, if_pos (by omega)]; omega
        go_wp2
        go_ret
        exact ⟨by rw [HF.out]; rfl, HB.out⟩
  · have hl' : n - (rs.length : Int) < 0 := by omega
    have HF : Hid (leftOf n (totR rs) = -1) := by
      show leftOf n (totR rs) = -1
      rw [leftOf, HT.out, if_neg (by omega)]
    go_enter Try.func44, Try.ntmps44
    go_wp2
    go_ret
    exact ⟨by rw [HF.out]; rfl, Below.refl _ _⟩

set_option maxRecDepth 100000 in
theorem szTblColS_any (v : Value) (ps : List (Int × Int)) (n : Int) (h0 : 0 ≤ n) (hn : n ≤ 1048576) (w : World) {z : Nat} (h : ColsAt w z v ps) :
    Calls Try.prog 43 #[v, .int .i64 n] w fun e w' => e = .returned (.int .i64 (leftOf n ps.length)) ∧ Below w.heap.size w w' := by
  obtain ⟨a, cap, rfl, hlen⟩ := At.form h
  unfold maxLen at hlen
  clear h
  by_cases hl : (ps.length : Int) ≤ n
  · have HF := Hid.intro (leftOf_pos hl)
    have hl' : ¬ n - (ps.length : Int) < 0 := by omega
    go_enter Try.func43, Try.ntmps43
    go_wp2
    go_ret
    exact ⟨by rw [HF.out]; rfl, Below.refl _ _⟩
  · have HF := Hid.intro (leftOf_neg hl)
    have hl' : n - (ps.length : Int) < 0 := by omega
    go_enter Try.func43, Try.ntmps43
    go_wp2
    go_ret
    exact ⟨by rw [HF.out]; rfl, Below.refl _ _⟩

set_option maxRecDepth 100000 in
set_option maxHeartbeats 1000000 in
theorem szTblTable_any (v : Value) (t : T) (w : World) {z : Nat} (h : TblAt w z v t) :
    Calls Try.prog 20 #[v, .int .i64 1048576] w fun e w' => e = .returned (.int .i64 (leftOf 1048576 (totT t))) ∧ Below w.heap.size w w' := by
  obtain ⟨vc, vr, rfl, h1, h2⟩ := h
  obtain ⟨ac, capc, rfl, hlc⟩ := At.form h1
  obtain ⟨ar, capr, rfl, hlr⟩ := At.form h2
  have H1 := Hid.intro (h1.kept (k_alloc (Below.refl _ _) (.cells #[.slice ac t.cols.length capc, .int .i64 t.head, .int .i64 t.foot, .slice ar t.rows.length capr, .int .i64 t.gap] 46)))
  have H2 := Hid.intro (h2.kept (k_alloc (Below.refl _ _) (.cells #[.slice ac t.cols.length capc, .int .i64 t.head, .int .i64 t.foot, .slice ar t.rows.length capr, .int .i64 t.gap] 46)))
  have HT : Hid (totT t = t.cols.length + totR t.rows) := Hid.intro rfl
  clear h1 h2 hlc hlr
  by_cases hc : (t.cols.length : Int) ≤ 1048576
  · have HF := Hid.intro (leftOf_pos hc)
    have hc' : ¬ (1048576 : Int) - (t.cols.length : Int) < 0 := by omega
    go_enter Try.func20, Try.ntmps20
    go_wp2_with fail
    refine (szTblColS_any _ t.cols _ (by omega) (by omega) _ H1.out).mono ?_
    rw [HF.out]
    rintro e w1 ⟨rfl, hb1⟩
    obtain ⟨hc1, hf1⟩ := bcell hb1
    have hz1 : w.heap.size < w1.heap.size := by have := hb1.size; simp at this; omega
    have H3 := Hid.intro (H2.out.kept hb1)
    have HB1 := Hid.intro (k_trans (k_alloc (Below.refl _ _) _) hb1)
    clear hb1
    go_wp2_with fail
    refine (szTblRowS_any _ t.rows _ (by omega) (by omega) _ H3.out).mono ?_
    by_cases hr : (totR t.rows : Int) ≤ 1048576 - t.cols.length
    · rw [leftOf_pos hr]
      rintro e w2 ⟨rfl, hb2⟩
      have HB2 := Hid.intro (k_trans HB1.out hb2)
      have hr' : ¬ (1048576 : Int) - (t.cols.length : Int) - (totR t.rows : Int) < 0 := by omega
      have HG : Hid (leftOf 1048576 (totT t) = 1048576 - t.cols.length - totR t.rows) := by
        show leftOf 1048576 (totT t) = _
        rw [leftOf, HT.out, if_pos (by omega)]; omega
      clear hb2
      go_wp2
      go_ret
      exact ⟨by rw [HG.out]; rfl, HB2.out⟩
    · rw [leftOf_neg hr]
      rintro e w2 ⟨rfl, hb2⟩
      have HB2 := Hid.intro (k_trans HB1.out hb2)
      have HG : Hid (leftOf 1048576 (totT t) = -1) := by
        show leftOf 1048576 (totT t) = _
        rw [leftOf, HT.out, if_neg (by omega)]
      clear hb2
      go_wp2
      go_ret
      exact ⟨by rw [HG.out]; rfl, HB2.out⟩
  · have HF := Hid.intro (leftOf_neg hc)
    have HG : Hid (leftOf 1048576 (totT t) = -1) := by
      show leftOf 1048576 (totT t) = _
      rw [leftOf, HT.out, if_neg (by omega)]
    go_enter Try.func20, Try.ntmps20
    go_wp2_with fail
    refine (szTblColS_any _ t.cols _ (by omega) (by omega) _ H1.out).mono ?_
    rw [HF.out]
    rintro e w1 ⟨rfl, hb1⟩
    have HB1 := Hid.intro (k_trans (k_alloc (Below.refl _ _) _) hb1)
    clear hb1
    go_wp2
    go_ret
    exact ⟨by rw [HG.out]; rfl, HB1.out⟩
end Go.Proofs.Ytojogjlblgcioao
