/-
  PROVED HERE: the laws' own eqTblTable and what it calls say true of one and the same table in two places; nothing that was in memory is turned.
-/
import Derived.Test.YtfkkhfiiokhnaayTbl
import Derived.WalkLawsBesides
import Derived.WalkSpells
import Derived.Deep.RegionWith
namespace Go.Proofs.Ytfkkhfiiokhnaay
open Go.RowKit

set_option maxRecDepth 100000 in
theorem eqBrdLine_any (a b : Int) (w : World) :
    Calls Try.prog 65 #[.agg #[.int .i64 a, .int .i64 b], .agg #[.int .i64 a, .int .i64 b]] w fun e w' => e = .returned (.bool true) ∧ Below w.heap.size w w' := by
  have ha : (a != a) = false := by simp
  have hb : (b != b) = false := by simp
  go_enter Try.func65, Try.ntmps65
  go_wp2
  go_ret
  exact ⟨rfl, k_alloc (k_alloc (Below.refl _ _) _) _⟩

set_option maxRecDepth 100000 in
theorem eqTblCol_any (a b : Int) (w : World) :
    Calls Try.prog 46 #[.agg #[.int .i64 a, .int .i64 b], .agg #[.int .i64 a, .int .i64 b]] w fun e w' => e = .returned (.bool true) ∧ Below w.heap.size w w' := by
  have ha : (a != a) = false := by simp
  have hb : (b != b) = false := by simp
  go_enter Try.func46, Try.ntmps46
  go_wp2
  go_ret
  exact ⟨rfl, k_alloc (k_alloc (Below.refl _ _) _) _⟩

set_option maxRecDepth 100000 in
set_option maxHeartbeats 1000000 in
theorem eqTblCell_any (x : C) (w : World) :
    Calls Try.prog 60 #[.agg #[.string x.s, .int .i64 x.c, .int .i64 x.r, .int .i64 x.a1, .int .i64 x.b1, .int .i64 x.a2, .int .i64 x.b2, .int .i64 x.a3, .int .i64 x.b3, .int .i64 x.a4, .int .i64 x.b4], .agg #[.string x.s, .int .i64 x.c, .int .i64 x.r, .int .i64 x.a1, .int .i64 x.b1, .int .i64 x.a2, .int .i64 x.b2, .int .i64 x.a3, .int .i64 x.b3, .int .i64 x.a4, .int .i64 x.b4]] w fun e w' => e = .returned (.bool true) ∧ Below w.heap.size w w' := by
  have hc : (x.c != x.c) = false := by simp
  have hr : (x.r != x.r) = false := by simp
  go_enter Try.func60, Try.ntmps60
  go_wp2_with fail
  refine (eqBrdLine_any _ _ _).mono ?_
  rintro e w1 ⟨rfl, hb1⟩
  obtain ⟨hc1, hf1⟩ := bcell hb1
  have hy1 : w.heap.size + 1 < w1.heap.size := by have := hb1.size; simp at this; omega
  have hx1 : w.heap.size < w1.heap.size := by omega
  have HB1 := Hid.intro (k_trans (k_alloc (k_alloc (Below.refl _ _) _) _) hb1)
  clear hb1
  go_wp2_with fail
  refine (eqBrdLine_any _ _ _).mono ?_
  rintro e w2 ⟨rfl, hb2⟩
  obtain ⟨hc2, hf2⟩ := bcell hb2
  have hy2 : w.heap.size + 1 < w2.heap.size := by have := hb2.size; omega
  have hx2 : w.heap.size < w2.heap.size := by omega
  have HB2 := Hid.intro (k_trans HB1.out hb2)
  clear hb2
  go_wp2_with fail
  refine (eqBrdLine_any _ _ _).mono ?_
  rintro e w3 ⟨rfl, hb3⟩
  obtain ⟨hc3, hf3⟩ := bcell hb3
  have hy3 : w.heap.size + 1 < w3.heap.size := by have := hb3.size; omega
  have hx3 : w.heap.size < w3.heap.size := by omega
  have HB3 := Hid.intro (k_trans HB2.out hb3)
  clear hb3
  go_wp2_with fail
  refine (eqBrdLine_any _ _ _).mono ?_
  rintro e w4 ⟨rfl, hb4⟩
  obtain ⟨hc4, hf4⟩ := bcell hb4
  have hy4 : w.heap.size + 1 < w4.heap.size := by have := hb4.size; omega
  have hx4 : w.heap.size < w4.heap.size := by omega
  have HB4 := Hid.intro (k_trans HB3.out hb4)
  clear hb4
  go_wp2
  go_ret
  exact ⟨rfl, HB4.out⟩

set_option maxRecDepth 100000 in
set_option maxHeartbeats 2000000 in
theorem eqTblColS_any (v1 v2 : Value) (ps : List (Int × Int)) (w : World) {z1 z2 : Nat} (h1 : ColsAt w z1 v1 ps) (h2 : ColsAt w z2 v2 ps) :
    Calls Try.prog 34 #[v1, v2] w fun e w' => e = .returned (.bool true) ∧ Below w.heap.size w w' := by
  obtain ⟨a1, cap1, rfl, hlen⟩ := At.form h1
  obtain ⟨a2, cap2, rfl, _⟩ := At.form h2
  unfold maxLen at hlen
  have hne : ((ps.length : Int) != (ps.length : Int)) = false := by simp
  have H1 := Hid.intro h1
  have H2 := Hid.intro h2
  clear h1 h2
  go_enter Try.func34, Try.ntmps34
  go_wp2_with fail
  go_loopw [5] (fun i W => ∃ k : Nat, k ≤ ps.length ∧ i = .int .i64 k ∧ Hid (Below w.heap.size w W)) (fun i _ => ps.length - (intOf i).toNat)
  case atStart => exact ⟨0, Nat.zero_le _, rfl, Below.refl _ _⟩
  case round =>
    obtain ⟨k, hk, rfl, HB⟩ := hrel
    by_cases hlt : k < ps.length
    · have hlt' : (k : Int) < (ps.length : Int) := by omega
      have h0' : (0 : Int) ≤ (k : Int) := by omega
      obtain ⟨b1, off1, cap1', e1, hc11, hc12, hbl1, x0, x1⟩ := At.get (H1.out.kept HB.out) hlt
      simp only [Value.slice.injEq, true_and] at e1
      obtain ⟨rfl, rfl⟩ := e1
      unfold maxLen at hc12
      obtain ⟨b2, off2, cap2', e2, hc21, hc22, hbl2, y0, y1⟩ := At.get (H2.out.kept HB.out) hlt
      simp only [Value.slice.injEq, true_and] at e2
      obtain ⟨rfl, rfl⟩ := e2
      unfold maxLen at hc22
      generalize ps.getD k (0, 0) = x at x0 x1 y0 y1
      go_wp2_with fail
      go_region_with (go_at_call 46; refine (eqTblCol_any _ _ _).mono ?_; rintro e w1 ⟨rfl, hb1⟩; have HB1 := Hid.intro (k_trans (k_drew HB.out) hb1); clear hb1)
      all_goals
        go_wp2
        go_roundw
        case rel => exact ⟨k + 1, by omega, by go_num, HB1⟩
        case measure => simp [intOf]; omega
    · go_wp2
      go_ret
      exact ⟨rfl, HB.out⟩

set_option maxRecDepth 100000 in
set_option maxHeartbeats 2000000 in
theorem eqTblCellS_any (v1 v2 : Value) (cs : List C) (w : World) {z1 z2 : Nat} (h1 : CellsAt w z1 v1 cs) (h2 : CellsAt w z2 v2 cs) :
    Calls Try.prog 55 #[v1, v2] w fun e w' => e = .returned (.bool true) ∧ Below w.heap.size w w' := by
  obtain ⟨a1, cap1, rfl, hlen⟩ := At.form h1
  obtain ⟨a2, cap2, rfl, _⟩ := At.form h2
  unfold maxLen at hlen
  have hne : ((cs.length : Int) != (cs.length : Int)) = false := by simp
  have H1 := Hid.intro h1
  have H2 := Hid.intro h2
  clear h1 h2
  go_enter Try.func55, Try.ntmps55
  go_wp2_with fail
  go_loopw [5] (fun i W => ∃ k : Nat, k ≤ cs.length ∧ i = .int .i64 k ∧ Hid (Below w.heap.size w W)) (fun i _ => cs.length - (intOf i).toNat)
  case atStart => exact ⟨0, Nat.zero_le _, rfl, Below.refl _ _⟩
  case round =>
    obtain ⟨k, hk, rfl, HB⟩ := hrel
    by_cases hlt : k < cs.length
    · have hlt' : (k : Int) < (cs.length : Int) := by omega
      have h0' : (0 : Int) ≤ (k : Int) := by omega
      obtain ⟨b1, off1, cap1', e1, hc11, hc12, hbl1, hx, _⟩ := At.get (H1.out.kept HB.out) hlt
      simp only [Value.slice.injEq, true_and] at e1
      obtain ⟨rfl, rfl⟩ := e1
      unfold maxLen at hc12
      obtain ⟨b2, off2, cap2', e2, hc21, hc22, hbl2, hy, _⟩ := At.get (H2.out.kept HB.out) hlt
      simp only [Value.slice.injEq, true_and] at e2
      obtain ⟨rfl, rfl⟩ := e2
      unfold maxLen at hc22
      generalize cs.getD k dC = x at hx hy
      obtain ⟨x0, x1, x2, x3, x4, x5, x6, x7, x8, x9, x10⟩ := hx
      obtain ⟨y0, y1, y2, y3, y4, y5, y6, y7, y8, y9, y10⟩ := hy
      go_wp2_with fail
      go_region_with (go_at_call 60; refine (eqTblCell_any x _).mono ?_; rintro e w1 ⟨rfl, hb1⟩; have HB1 := Hid.intro (k_trans (k_drew HB.out) hb1); clear hb1)
      all_goals
        go_wp2
        go_roundw
        case rel => exact ⟨k + 1, by omega, by go_num, HB1⟩
        case measure => simp [intOf]; omega
    · go_wp2
      go_ret
      exact ⟨rfl, HB.out⟩

set_option maxRecDepth 100000 in
set_option maxHeartbeats 1000000 in
theorem eqTblRow_any (u1 u2 : Value) (cs : List C) (q : Bool) (w : World) {z1 z2 : Nat} (h1 : CellsAt w z1 u1 cs) (h2 : CellsAt w z2 u2 cs) :
    Calls Try.prog 47 #[.agg #[u1, .bool q], .agg #[u2, .bool q]] w fun e w' => e = .returned (.bool true) ∧ Below w.heap.size w w' := by
  obtain ⟨a1, cap1, rfl, _⟩ := At.form h1
  obtain ⟨a2, cap2, rfl, _⟩ := At.form h2
  have hq : (q != q) = false := by simp
  have H1 := Hid.intro (h1.kept (k_alloc (k_alloc (Below.refl _ _) (.cells #[.slice a1 cs.length cap1, .bool q] 76)) (.cells #[.slice a2 cs.length cap2, .bool q] 76)))
  have H2 := Hid.intro (h2.kept (k_alloc (k_alloc (Below.refl _ _) (.cells #[.slice a1 cs.length cap1, .bool q] 76)) (.cells #[.slice a2 cs.length cap2, .bool q] 76)))
  clear h1 h2
  go_enter Try.func47, Try.ntmps47
  go_wp2_with fail
  refine (eqTblCellS_any _ _ cs _ H1.out H2.out).mono ?_
  rintro e w1 ⟨rfl, hb1⟩
  obtain ⟨hc1, hf1⟩ := bcell hb1
  have hy1 : w.heap.size + 1 < w1.heap.size := by have := hb1.size; simp at this; omega
  have hx1 : w.heap.size < w1.heap.size := by omega
  have HB1 := Hid.intro (k_trans (k_alloc (k_alloc (Below.refl _ _) _) _) hb1)
  clear hb1
  go_wp2
  go_ret
  exact ⟨rfl, HB1.out⟩

set_option maxRecDepth 100000 in
set_option maxHeartbeats 2000000 in
theorem eqTblRowS_any (v1 v2 : Value) (rs : List R) (w : World) {z1 z2 : Nat} (h1 : RowsAt w z1 v1 rs) (h2 : RowsAt w z2 v2 rs) :
    Calls Try.prog 35 #[v1, v2] w fun e w' => e = .returned (.bool true) ∧ Below w.heap.size w w' := by
  obtain ⟨a1, cap1, rfl, hlen⟩ := At.form h1
  obtain ⟨a2, cap2, rfl, _⟩ := At.form h2
  unfold maxLen at hlen
  have hne : ((rs.length : Int) != (rs.length : Int)) = false := by simp
  have H1 := Hid.intro h1
  have H2 := Hid.intro h2
  clear h1 h2
  go_enter Try.func35, Try.ntmps35
  go_wp2_with fail
  go_loopw [5] (fun i W => ∃ k : Nat, k ≤ rs.length ∧ i = .int .i64 k ∧ Hid (Below w.heap.size w W)) (fun i _ => rs.length - (intOf i).toNat)
  case atStart => exact ⟨0, Nat.zero_le _, rfl, Below.refl _ _⟩
  case round =>
    obtain ⟨k, hk, rfl, HB⟩ := hrel
    by_cases hlt : k < rs.length
    · have hlt' : (k : Int) < (rs.length : Int) := by omega
      have h0' : (0 : Int) ≤ (k : Int) := by omega
      obtain ⟨b1, off1, cap1', e1, hc11, hc12, hbl1, u1, x0, x1, x2⟩ := At.get (H1.out.kept HB.out) hlt
      simp only [Value.slice.injEq, true_and] at e1
      obtain ⟨rfl, rfl⟩ := e1
      unfold maxLen at hc12
      obtain ⟨b2, off2, cap2', e2, hc21, hc22, hbl2, u2, y0, y1, y2⟩ := At.get (H2.out.kept HB.out) hlt
      simp only [Value.slice.injEq, true_and] at e2
      obtain ⟨rfl, rfl⟩ := e2
      unfold maxLen at hc22
      generalize rs.getD k dR = x at x1 x2 y1 y2
      obtain ⟨c1, d1, rfl, _⟩ := At.form x2
      obtain ⟨c2, d2, rfl, _⟩ := At.form y2
      have X2 := Hid.intro x2
      have Y2 := Hid.intro y2
      clear x2 y2
      go_wp2_with fail
      go_region_with (go_at_call 47; refine (eqTblRow_any _ _ x.cells x.whole _ (X2.out.kept (k_drew (Below.refl _ _))) (Y2.out.kept (k_drew (Below.refl _ _)))).mono ?_; rintro e w1 ⟨rfl, hb1⟩; have HB1 := Hid.intro (k_trans (k_drew HB.out) hb1); clear hb1)
      all_goals
        go_wp2
        go_roundw
        case rel => exact ⟨k + 1, by omega, by go_num, HB1⟩
        case measure => simp [intOf]; omega
    · go_wp2
      go_ret
      exact ⟨rfl, HB.out⟩

set_option maxRecDepth 100000 in
set_option maxHeartbeats 1000000 in
theorem eqTblTable_any (v1 v2 : Value) (t : T) (w : World) {z1 z2 : Nat} (h1 : TblAt w z1 v1 t) (h2 : TblAt w z2 v2 t) :
    Calls Try.prog 12 #[v1, v2] w fun e w' => e = .returned (.bool true) ∧ Below w.heap.size w w' := by
  obtain ⟨vc1, vr1, rfl, h1c, h1r⟩ := h1
  obtain ⟨vc2, vr2, rfl, h2c, h2r⟩ := h2
  obtain ⟨ac1, cc1, rfl, _⟩ := At.form h1c
  obtain ⟨ar1, cr1, rfl, _⟩ := At.form h1r
  obtain ⟨ac2, cc2, rfl, _⟩ := At.form h2c
  obtain ⟨ar2, cr2, rfl, _⟩ := At.form h2r
  have hh : (t.head != t.head) = false := by simp
  have hf : (t.foot != t.foot) = false := by simp
  have hg : (t.gap != t.gap) = false := by simp
  have K := Hid.intro (k_alloc (k_alloc (Below.refl w.heap.size w) (.cells #[.slice ac1 t.cols.length cc1, .int .i64 t.head, .int .i64 t.foot, .slice ar1 t.rows.length cr1, .int .i64 t.gap] 32)) (.cells #[.slice ac2 t.cols.length cc2, .int .i64 t.head, .int .i64 t.foot, .slice ar2 t.rows.length cr2, .int .i64 t.gap] 32))
  have HC1 := Hid.intro (h1c.kept K.out)
  have HC2 := Hid.intro (h2c.kept K.out)
  have HR1 := Hid.intro (h1r.kept K.out)
  have HR2 := Hid.intro (h2r.kept K.out)
  clear h1c h1r h2c h2r
  go_enter Try.func12, Try.ntmps12
  go_wp2_with fail
  refine (eqTblColS_any _ _ t.cols _ HC1.out HC2.out).mono ?_
  rintro e w1 ⟨rfl, hb1⟩
  obtain ⟨hc1, hf1⟩ := bcell hb1
  have hy1 : w.heap.size + 1 < w1.heap.size := by have := hb1.size; simp at this; omega
  have hx1 : w.heap.size < w1.heap.size := by omega
  have HB1 := Hid.intro (k_trans K.out hb1)
  have HS1 := Hid.intro (HR1.out.kept hb1)
  have HS2 := Hid.intro (HR2.out.kept hb1)
  clear hb1
  go_wp2_with fail
  refine (eqTblRowS_any _ _ t.rows _ HS1.out HS2.out).mono ?_
  rintro e w2 ⟨rfl, hb2⟩
  obtain ⟨hc2, hf2⟩ := bcell hb2
  have hy2 : w.heap.size + 1 < w2.heap.size := by have := hb2.size; omega
  have hx2 : w.heap.size < w2.heap.size := by omega
  have HB2 := Hid.intro (k_trans HB1.out hb2)
  clear hb2
  go_wp2
  go_ret
  exact ⟨rfl, HB2.out⟩
end Go.Proofs.Ytfkkhfiiokhnaay
