/-
  PROVED HERE: what the laws' own toTblTable answers is the same table, in memory of the call's own, each slice in a block of its own; nothing that was in memory is turned. Also: the laws' own eqTblTable and what it calls say true of one and the same table in two places; nothing that was in memory is turned. Also: what is as it was but the blocks from one number on up to another one.
-/
import Derived.Test.YtggmjiddadjilaoB4
import Derived.WalkLawsBesides
import Derived.WalkSpells
import Derived.Deep.RegionWith
namespace Go.Proofs.Ytggmjiddadjilao
open Go.RowKit
set_option maxRecDepth 100000 in
set_option maxHeartbeats 1000000 in
theorem toTblCellS_own (v : Value) (cs : List C) (hn : cs.length ≤ 1048576) (w : World) {z : Nat} (h : CellsAt w z v cs) :
    Calls Try.prog 103 #[v] w fun e w' => ∃ u, e = .returned u ∧ OwnC w' w.heap.size u cs ∧ Below w.heap.size w w' := by
  obtain ⟨a, cap, rfl, hlen⟩ := At.form h
  have hmk := makeC cs.length hn
  have H := Hid.intro h
  clear h
  go_enter Try.func103, Try.ntmps103
  go_wp2_with fail
  clear hmk
  go_loopw [4] (fun i W => ∃ (k : Nat) (arr : Array Value), k ≤ cs.length ∧ i = .int .i64 k ∧ Hid (W.heap[w.heap.size]? = some (.cells arr 62)) ∧ arr.size = cs.length * 11 ∧ Hid (∀ i, i < k → CellArr arr (i * 11) (cs.getD i dC)) ∧ Hid (Below w.heap.size w W) ∧ w.heap.size < W.heap.size) (fun i _ => cs.length - (intOf i).toNat)
  case atStart => exact ⟨0, newC cs.length, Nat.zero_le _, rfl, newestB _ _, newC_size _, fun i hi => absurd hi (Nat.not_lt_zero _), k_alloc (Below.refl _ _) _, by simp⟩
  case round =>
    obtain ⟨k, arr, hk, rfl, HBk, hsz, HA, HB, hw⟩ := hrel
    by_cases hlt : k < cs.length
    · obtain ⟨b, off, cap', e', hc1, hc2, hbl, hx, hs⟩ := At.get (H.out.kept HB.out) hlt
      simp only [Value.slice.injEq, true_and] at e'
      obtain ⟨rfl, rfl⟩ := e'
      have HN := Hid.intro (put11_next hsz hlt HA.out)
      generalize cs.getD k dC = x at hx hs HN
      obtain ⟨x0, x1, x2, x3, x4, x5, x6, x7, x8, x9, x10⟩ := hx
      unfold maxLen at hc2
      go_wp2_with fail
      refine (toTblCell_any _ _ _ _ _ _ _ _ _ _ _ _).mono ?_
      rintro e w1 ⟨rfl, hb1⟩
      have B1 := (hb1.block w.heap.size hw).trans HBk.out
      have hw1 : w.heap.size < w1.heap.size := Nat.lt_of_lt_of_le hw hb1.size
      obtain ⟨y0, q0⟩ := someB (p := k * 11) B1 (by omega)
      obtain ⟨y1, q1⟩ := someB (p := k * 11 + 1) B1 (by omega)
      obtain ⟨y2, q2⟩ := someB (p := k * 11 + 2) B1 (by omega)
      obtain ⟨y3, q3⟩ := someB (p := k * 11 + 3) B1 (by omega)
      obtain ⟨y4, q4⟩ := someB (p := k * 11 + 4) B1 (by omega)
      obtain ⟨y5, q5⟩ := someB (p := k * 11 + 5) B1 (by omega)
      obtain ⟨y6, q6⟩ := someB (p := k * 11 + 6) B1 (by omega)
      obtain ⟨y7, q7⟩ := someB (p := k * 11 + 7) B1 (by omega)
      obtain ⟨y8, q8⟩ := someB (p := k * 11 + 8) B1 (by omega)
      obtain ⟨y9, q9⟩ := someB (p := k * 11 + 9) B1 (by omega)
      obtain ⟨y10, q10⟩ := someB (p := k * 11 + 10) B1 (by omega)
      have fz : ∀ p, w1.frozen? ⟨w.heap.size, p, none⟩ = false := fun p => freeB B1
      have HB1 := Hid.intro B1
      have HK1 := Hid.intro (k_trans HB.out hb1)
      clear B1 hb1 HA HB HBk x0 x1 x2 x3 x4 x5 x6 x7 x8 x9 x10
      go_wp2
      go_roundw
      case rel => exact ⟨k + 1, put11 arr (k * 11) x, by omega, by go_num, setB (setB (setB (setB (setB (setB (setB (setB (setB (setB (setB HB1.out _) _) _) _) _) _) _) _) _) _) _, by rw [put11_size]; exact hsz, HN, (k_set (k_set (k_set (k_set (k_set (k_set (k_set (k_set (k_set (k_set (k_set HK1.out (Nat.le_refl _) _) (Nat.le_refl _) _) (Nat.le_refl _) _) (Nat.le_refl _) _) (Nat.le_refl _) _) (Nat.le_refl _) _) (Nat.le_refl _) _) (Nat.le_refl _) _) (Nat.le_refl _) _) (Nat.le_refl _) _) (Nat.le_refl _) _), Nat.lt_of_lt_of_eq hw1 (by iterate 11 rw [sizeSet])⟩
      case measure => simp [intOf]; omega
    · obtain rfl : k = cs.length := by omega
      go_wp2
      go_ret
      exact ⟨_, rfl, ⟨flat_len cellVs 11 (fun _ => rfl) cs, .inr ⟨w.heap.size, cs.length, arr, rfl, Nat.le_refl _, HBk.out, Nat.le_refl _, hlen, hsz, own_arr hsz HA.out⟩⟩, HB.out⟩

set_option maxRecDepth 100000 in
set_option maxHeartbeats 1000000 in
theorem toTblRow_own (u : Value) (cs : List C) (q : Bool) (hn : cs.length ≤ 1048576) (w : World) {z : Nat} (h : CellsAt w z u cs) :
    Calls Try.prog 81 #[.agg #[u, .bool q]] w fun e w' => ∃ a cap, e = .returned (.agg #[.slice a cs.length cap, .bool q]) ∧ OwnC w' (w.heap.size + 1) (.slice a cs.length cap) cs ∧ Below w.heap.size w w' := by
  obtain ⟨a, cap, rfl, hlen⟩ := At.form h
  have H := Hid.intro h
  clear h
  go_enter Try.func81, Try.ntmps81
  go_wp2_with fail
  refine (toTblCellS_own _ cs hn _ (H.out.kept (k_alloc (k_alloc (k_alloc (Below.refl _ _) _) _) _))).mono ?_
  rintro e w1 ⟨u', rfl, hc', hb1⟩
  obtain ⟨a', cap', rfl, _⟩ := row_form hc'
  obtain ⟨hc1, hf1⟩ := bcell hb1
  have hz1 : w.heap.size + 1 + 1 < w1.heap.size := by have := hb1.size; simp at this; omega
  have hy1 : w.heap.size + 1 < w1.heap.size := by omega
  have hx1 : w.heap.size < w1.heap.size := by omega
  have HC := Hid.intro hc'
  have HB := Hid.intro hb1
  clear hc' hb1
  go_wp2
  refine bodyPost_ret (v := .agg #[.slice a' cs.length cap', .bool q]) (by simp [results, Try.results81, go_sem, hc1]) rfl ⟨a', cap', rfl, ?_, ?_⟩
  · exact row_base (row_since (row_since (row_since (row_since HC.out (Since.set (Since.refl _ _) (by simp) _)) (Since.set (Since.refl _ _) (by simp) _)) (Since.set (Since.refl _ _) (by simp) _)) (Since.set (Since.refl _ _) (by simp) _)) (by simp)
  · exact k_set (k_set (k_set (k_set (k_trans (k_alloc (k_alloc (k_alloc (Below.refl _ _) _) _) _) HB.out) (by dsimp only; omega) _) (by dsimp only; omega) _) (by dsimp only; omega) _) (by dsimp only; omega) _

set_option maxRecDepth 100000 in
set_option maxHeartbeats 1000000 in
theorem toTblRowS_own (v : Value) (rs : List R) (hn : totR rs ≤ 1048576) (w : World) {z : Nat} (h : RowsAt w z v rs) :
    Calls Try.prog 50 #[v] w fun e w' => ∃ a cap ur, e = .returned (.slice a rs.length cap) ∧ ur.map (·.2) = rs ∧ OwnR w' w.heap.size (.slice a rs.length cap) ur ∧ Below w.heap.size w w' := by
  obtain ⟨a, cap, rfl, hlen⟩ := At.form h
  have hl : rs.length ≤ 1048576 := by have := totR_eq rs; omega
  have hmk := makeR rs.length hl
  have H := Hid.intro h
  clear h
  go_enter Try.func50, Try.ntmps50
  go_wp2_with fail
  clear hmk
  go_loopw [4] (fun i W => ∃ (k : Nat) (arr : Array Value), k ≤ rs.length ∧ i = .int .i64 k ∧ Hid (W.heap[w.heap.size]? = some (.cells arr 88)) ∧ arr.size = rs.length * 2 ∧ Hid (ArrO W (w.heap.size + 1) arr rs k) ∧ Hid (Below w.heap.size w W) ∧ w.heap.size < W.heap.size) (fun i _ => rs.length - (intOf i).toNat)
  case atStart => exact ⟨0, newR rs.length, Nat.zero_le _, rfl, newestB _ _, newR_size _, ArrO.zero _ _ _ _, k_alloc (Below.refl _ _) _, by simp⟩
  case round =>
    obtain ⟨k, arr, hk, rfl, HBk, hsz, HA, HB, hw⟩ := hrel
    by_cases hlt : k < rs.length
    · obtain ⟨b, off, cap', e', hc1, hc2, hbl, u, hx0, hx1, hx⟩ := At.get (H.out.kept HB.out) hlt
      simp only [Value.slice.injEq, true_and] at e'
      obtain ⟨rfl, rfl⟩ := e'
      have hlx : (rs.getD k dR).cells.length ≤ 1048576 := by
        have h1 := rwTo_succ hlt
        have h2 := rwTo_le rs (k + 1)
        have h3 := totC_eq (rs.getD k dR).cells
        have h4 := totR_eq rs
        omega
      have HN := Hid.intro (fun (w' : World) (hs : Since (w.heap.size + 1) wr w') (u : Value) (hu : OwnC w' wr.heap.size u (rs.getD k dR).cells) => HA.out.next hsz hlt hw hs hu)
      generalize rs.getD k dR = x at hx1 hx HN hlx
      obtain ⟨ua, ucap, rfl, hul⟩ := At.form hx
      have HX := Hid.intro hx
      unfold maxLen at hc2
      clear hx hul
      go_wp2_with fail
      refine (toTblRow_own _ x.cells x.whole hlx _ HX.out).mono ?_
      rintro e w1 ⟨a1, cap1, rfl, hC1, hb1⟩
      have B1 := (hb1.block w.heap.size hw).trans HBk.out
      have hw1 : w.heap.size < w1.heap.size := Nat.lt_of_lt_of_le hw hb1.size
      obtain ⟨y0, q0⟩ := someB (p := k * 2) B1 (by omega)
      obtain ⟨y1, q1⟩ := someB (p := k * 2 + 1) B1 (by omega)
      have fz : ∀ p, w1.frozen? ⟨w.heap.size, p, none⟩ = false := fun p => freeB B1
      have HB1 := Hid.intro B1
      have HK1 := Hid.intro (k_trans HB.out hb1)
      have HS1 := Hid.intro (Since.set (Since.set (Since.of_below (z := w.heap.size + 1) hb1) (p := ⟨w.heap.size, k * 2, none⟩) (Nat.lt_succ_self _) (.slice a1 x.cells.length cap1)) (p := ⟨w.heap.size, k * 2 + 1, none⟩) (Nat.lt_succ_self _) (.bool x.whole))
      have HC1 := Hid.intro (row_base (row_since hC1 (Since.set (Since.set (Since.refl _ _) (p := ⟨w.heap.size, k * 2, none⟩) (Nat.lt_succ_of_lt hw) (.slice a1 x.cells.length cap1)) (p := ⟨w.heap.size, k * 2 + 1, none⟩) (Nat.lt_succ_of_lt hw) (.bool x.whole))) (Nat.le_succ _) : OwnC _ wr.heap.size _ _)
      clear B1 hb1 HA HB HBk hC1 hx0 hx1
      go_wp2
      go_roundw
      case rel => exact ⟨k + 1, _, by omega, by go_num, setB (setB HB1.out _) _, by rw [Array.size_setIfInBounds, Array.size_setIfInBounds]; exact hsz, HN.out _ HS1.out _ HC1.out, k_set (k_set HK1.out (Nat.le_refl _) _) (Nat.le_refl _) _, Nat.lt_of_lt_of_eq hw1 (by iterate 2 rw [sizeSet])⟩
      case measure => simp [intOf]; omega
    · obtain rfl : k = rs.length := by omega
      go_wp2
      go_ret
      obtain ⟨ur, e1, e2⟩ := HA.out.all hsz HBk.out hlen
      exact ⟨_, _, ur, rfl, e1, e2, HB.out⟩

set_option maxRecDepth 100000 in
set_option maxHeartbeats 1000000 in
theorem toTblColS_own (v : Value) (ps : List (Int × Int)) (hn : ps.length ≤ 1048576) (w : World) {z : Nat} (h : ColsAt w z v ps) :
    Calls Try.prog 49 #[v] w fun e w' => ∃ a cap, e = .returned (.slice a ps.length cap) ∧ OwnCol w' w.heap.size (.slice a ps.length cap) ps ∧ Below w.heap.size w w' := by
  obtain ⟨a, cap, rfl, hlen⟩ := At.form h
  have hmk := makeK ps.length hn
  have H := Hid.intro h
  clear h
  go_enter Try.func49, Try.ntmps49
  go_wp2_with fail
  clear hmk
  go_loopw [4] (fun i W => ∃ (k : Nat) (arr : Array Value), k ≤ ps.length ∧ i = .int .i64 k ∧ Hid (W.heap[w.heap.size]? = some (.cells arr 120)) ∧ arr.size = ps.length * 2 ∧ Hid (ColArr arr ps k) ∧ Hid (Below w.heap.size w W) ∧ w.heap.size < W.heap.size) (fun i _ => ps.length - (intOf i).toNat)
  case atStart => exact ⟨0, newK ps.length, Nat.zero_le _, rfl, newestB _ _, newK_size _, fun i hi => absurd hi (Nat.not_lt_zero _), k_alloc (Below.refl _ _) _, by simp⟩
  case round =>
    obtain ⟨k, arr, hk, rfl, HBk, hsz, HA, HB, hw⟩ := hrel
    by_cases hlt : k < ps.length
    · obtain ⟨b, off, cap', e', hc1, hc2, hbl, hx0, hx1⟩ := At.get (H.out.kept HB.out) hlt
      simp only [Value.slice.injEq, true_and] at e'
      obtain ⟨rfl, rfl⟩ := e'
      have HN := Hid.intro (HA.out.next hsz hlt)
      generalize ps.getD k (0, 0) = x at hx0 hx1 HN
      unfold maxLen at hc2
      go_wp2_with fail
      refine (toTblCol_any _ _ _).mono ?_
      rintro e w1 ⟨rfl, hb1⟩
      have B1 := (hb1.block w.heap.size hw).trans HBk.out
      have hw1 : w.heap.size < w1.heap.size := Nat.lt_of_lt_of_le hw hb1.size
      obtain ⟨y0, q0⟩ := someB (p := k * 2) B1 (by omega)
      obtain ⟨y1, q1⟩ := someB (p := k * 2 + 1) B1 (by omega)
      have fz : ∀ p, w1.frozen? ⟨w.heap.size, p, none⟩ = false := fun p => freeB B1
      have HB1 := Hid.intro B1
      have HK1 := Hid.intro (k_trans HB.out hb1)
      clear B1 hb1 HA HB HBk hx0 hx1
      go_wp2
      go_roundw
      case rel => exact ⟨k + 1, _, by omega, by go_num, setB (setB HB1.out _) _, by rw [Array.size_setIfInBounds, Array.size_setIfInBounds]; exact hsz, HN, k_set (k_set HK1.out (Nat.le_refl _) _) (Nat.le_refl _) _, Nat.lt_of_lt_of_eq hw1 (by iterate 2 rw [sizeSet])⟩
      case measure => simp [intOf]; omega
    · obtain rfl : k = ps.length := by omega
      go_wp2
      go_ret
      exact ⟨_, _, rfl, ⟨flat_len colVs 2 (fun _ => rfl) ps, .inr ⟨w.heap.size, ps.length, arr, rfl, Nat.le_refl _, HBk.out, Nat.le_refl _, hlen, hsz, own_cols hsz HA.out⟩⟩, HB.out⟩

set_option maxRecDepth 100000 in
set_option maxHeartbeats 1000000 in
theorem toTblTable_own (v : Value) (t : T) (hn : totT t ≤ 1048576) (w : World) {z : Nat} (h : TblAt w z v t) :
    Calls Try.prog 23 #[v] w fun e w' => ∃ ac cc ar cr, e = .returned (.agg #[.slice ac t.cols.length cc, .int .i64 t.head, .int .i64 t.foot, .slice ar t.rows.length cr, .int .i64 t.gap]) ∧
      OwnT w' w.heap.size (.slice ac t.cols.length cc) (.slice ar t.rows.length cr) t ∧ Below w.heap.size w w' := by
  obtain ⟨vc, vr, rfl, h1, h2⟩ := h
  obtain ⟨ac, capc, rfl, hlc⟩ := At.form h1
  obtain ⟨ar, capr, rfl, hlr⟩ := At.form h2
  have hn1 : t.cols.length ≤ 1048576 := by unfold totT at hn; omega
  have hn2 : totR t.rows ≤ 1048576 := by unfold totT at hn; omega
  have H1 := Hid.intro h1
  have H2 := Hid.intro h2
  clear h1 h2 hlc hlr hn
  go_enter Try.func23, Try.ntmps23
  go_wp2_with fail
  refine (toTblColS_own _ t.cols hn1 _ (H1.out.kept (k_alloc (k_alloc (k_alloc (Below.refl _ _) _) _) _))).mono ?_
  rintro e w1 ⟨a1, cap1, rfl, hC1, hb1⟩
  obtain ⟨hc1, hf1⟩ := bcell hb1
  have hz1 : w.heap.size + 1 + 1 < w1.heap.size := by have := hb1.size; simp at this; omega
  have hy1 : w.heap.size + 1 < w1.heap.size := by omega
  have hx1 : w.heap.size < w1.heap.size := by omega
  have HC1 := Hid.intro hC1
  have HB1 := Hid.intro hb1
  clear hC1 hb1
  go_wp2_with fail
  refine (toTblRowS_own _ t.rows hn2 _ (H2.out.kept (k_set (k_set (k_set (k_trans (k_alloc (k_alloc (k_alloc (Below.refl _ _) _) _) _) HB1.out) (by dsimp only; omega) _) (by dsimp only; omega) _) (by dsimp only; omega) _))).mono ?_
  rintro e w2 ⟨a2, cap2, ur, rfl, hur, hC2, hb2⟩
  obtain ⟨hc2, hf2⟩ := bcell hb2
  have hz2 : w.heap.size + 1 + 1 < w2.heap.size := by have := hb2.size; simp at this; omega
  have hy2 : w.heap.size + 1 < w2.heap.size := by omega
  have hx2 : w.heap.size < w2.heap.size := by omega
  have HC2 := Hid.intro hC2
  have HB2 := Hid.intro hb2
  clear hC2 hb2
  go_wp2
  refine bodyPost_ret (v := .agg #[.slice a1 t.cols.length cap1, .int .i64 t.head, .int .i64 t.foot, .slice a2 t.rows.length cap2, .int .i64 t.gap]) (by simp [results, Try.results23, go_sem, hc1, hc2, hy1]) rfl ⟨a1, cap1, a2, cap2, rfl, ⟨ur, hur, ?_, ?_⟩, ?_⟩
  · exact row_base (row_since (row_since HC1.out (Since.set (Since.set (Since.set (Since.refl _ _) (by simp) _) (by simp) _) (by simp) _)) (Since.set (Since.set (Since.set (Since.set (Since.set (Since.set (Since.set (Since.of_below HB2.out) (by simp) _) (by simp) _) (by simp) _) (by simp) _) (by simp) _) (by simp) _) (by simp) _)) (by simp; omega)
  · exact (HC2.out.since (Since.set (Since.set (Since.set (Since.set (Since.set (Since.set (Since.set (Since.refl _ _) (by simp; omega) _) (by simp; omega) _) (by simp; omega) _) (by simp; omega) _) (by simp; omega) _) (by simp; omega) _) (by simp; omega) _)).base (by simp; omega)
  · exact (k_set (k_set (k_set (k_set (k_set (k_set (k_set (k_trans (k_set (k_set (k_set (k_trans (k_alloc (k_alloc (k_alloc (Below.refl _ _) _) _) _) HB1.out) (by dsimp only; omega) _) (by dsimp only; omega) _) (by dsimp only; omega) _) HB2.out) (by dsimp only; omega) _) (by dsimp only; omega) _) (by dsimp only; omega) _) (by dsimp only; omega) _) (by dsimp only; omega) _) (by dsimp only; omega) _) (by dsimp only; omega) _)
end Go.Proofs.Ytggmjiddadjilao
namespace Go.Proofs.Ytggmjiddadjilao
open Go.RowKit

set_option maxRecDepth 100000 in
theorem eqBrdLine_any (a b : Int) (w : World) :
    Calls Try.prog 120 #[.agg #[.int .i64 a, .int .i64 b], .agg #[.int .i64 a, .int .i64 b]] w fun e w' => e = .returned (.bool true) ∧ Below w.heap.size w w' := by
  have ha : (a != a) = false := by simp
  have hb : (b != b) = false := by simp
  go_enter Try.func120, Try.ntmps120
  go_wp2
  go_ret
  exact ⟨rfl, k_alloc (k_alloc (Below.refl _ _) _) _⟩

set_option maxRecDepth 100000 in
theorem eqTblCol_any (a b : Int) (w : World) :
    Calls Try.prog 90 #[.agg #[.int .i64 a, .int .i64 b], .agg #[.int .i64 a, .int .i64 b]] w fun e w' => e = .returned (.bool true) ∧ Below w.heap.size w w' := by
  have ha : (a != a) = false := by simp
  have hb : (b != b) = false := by simp
  go_enter Try.func90, Try.ntmps90
  go_wp2
  go_ret
  exact ⟨rfl, k_alloc (k_alloc (Below.refl _ _) _) _⟩

set_option maxRecDepth 100000 in
set_option maxHeartbeats 1000000 in
theorem eqTblCell_any (x : C) (w : World) :
    Calls Try.prog 115 #[.agg #[.string x.s, .int .i64 x.c, .int .i64 x.r, .int .i64 x.a1, .int .i64 x.b1, .int .i64 x.a2, .int .i64 x.b2, .int .i64 x.a3, .int .i64 x.b3, .int .i64 x.a4, .int .i64 x.b4], .agg #[.string x.s, .int .i64 x.c, .int .i64 x.r, .int .i64 x.a1, .int .i64 x.b1, .int .i64 x.a2, .int .i64 x.b2, .int .i64 x.a3, .int .i64 x.b3, .int .i64 x.a4, .int .i64 x.b4]] w fun e w' => e = .returned (.bool true) ∧ Below w.heap.size w w' := by
  have hc : (x.c != x.c) = false := by simp
  have hr : (x.r != x.r) = false := by simp
  go_enter Try.func115, Try.ntmps115
  go_wp2_with fail
  refine (eqBrdLine_any _ _ _).mono ?_
  rintro e w1 ⟨rfl, hb1⟩
  obtain ⟨hc1, hf1⟩ := bcell hb1
  have hy1 : w.heap.size + 1 < w1.heap.size := by have := hb1.size; simp at this; omega
  have hx1 : w.heap.size < w1.heap.size := by omega
  have HB1 := Hid.intro (k_trans (k_alloc (k_alloc (Below.refl _ _) _) _) hb1)
  clear hb1
  go_wp2_with fail
  refine (eqBrdLine_any _ _ _).mono ?_
  rintro e w2 ⟨rfl, hb2⟩
  obtain ⟨hc2, hf2⟩ := bcell hb2
  have hy2 : w.heap.size + 1 < w2.heap.size := by have := hb2.size; omega
  have hx2 : w.heap.size < w2.heap.size := by omega
  have HB2 := Hid.intro (k_trans HB1.out hb2)
  clear hb2
  go_wp2_with fail
  refine (eqBrdLine_any _ _ _).mono ?_
  rintro e w3 ⟨rfl, hb3⟩
  obtain ⟨hc3, hf3⟩ := bcell hb3
  have hy3 : w.heap.size + 1 < w3.heap.size := by have := hb3.size; omega
  have hx3 : w.heap.size < w3.heap.size := by omega
  have HB3 := Hid.intro (k_trans HB2.out hb3)
  clear hb3
  go_wp2_with fail
  refine (eqBrdLine_any _ _ _).mono ?_
  rintro e w4 ⟨rfl, hb4⟩
  obtain ⟨hc4, hf4⟩ := bcell hb4
  have hy4 : w.heap.size + 1 < w4.heap.size := by have := hb4.size; omega
  have hx4 : w.heap.size < w4.heap.size := by omega
  have HB4 := Hid.intro (k_trans HB3.out hb4)
  clear hb4
  go_wp2
  go_ret
  exact ⟨rfl, HB4.out⟩

set_option maxRecDepth 100000 in
set_option maxHeartbeats 2000000 in
theorem eqTblColS_any (v1 v2 : Value) (ps : List (Int × Int)) (w : World) {z1 z2 : Nat} (h1 : ColsAt w z1 v1 ps) (h2 : ColsAt w z2 v2 ps) :
    Calls Try.prog 59 #[v1, v2] w fun e w' => e = .returned (.bool true) ∧ Below w.heap.size w w' := by
  obtain ⟨a1, cap1, rfl, hlen⟩ := At.form h1
  obtain ⟨a2, cap2, rfl, _⟩ := At.form h2
  unfold maxLen at hlen
  have hne : ((ps.length : Int) != (ps.length : Int)) = false := by simp
  have H1 := Hid.intro h1
  have H2 := Hid.intro h2
  clear h1 h2
  go_enter Try.func59, Try.ntmps59
  go_wp2_with fail
  go_loopw [5] (fun i W => ∃ k : Nat, k ≤ ps.length ∧ i = .int .i64 k ∧ Hid (Below w.heap.size w W)) (fun i _ => ps.length - (intOf i).toNat)
  case atStart => exact ⟨0, Nat.zero_le _, rfl, Below.refl _ _⟩
  case round =>
    obtain ⟨k, hk, rfl, HB⟩ := hrel
    by_cases hlt : k < ps.length
    · have hlt' : (k : Int) < (ps.length : Int) := by omega
      have h0' : (0 : Int) ≤ (k : Int) := by omega
      obtain ⟨b1, off1, cap1', e1, hc11, hc12, hbl1, x0, x1⟩ := At.get (H1.out.kept HB.out) hlt
      simp only [Value.slice.injEq, true_and] at e1
      obtain ⟨rfl, rfl⟩ := e1
      unfold maxLen at hc12
      obtain ⟨b2, off2, cap2', e2, hc21, hc22, hbl2, y0, y1⟩ := At.get (H2.out.kept HB.out) hlt
      simp only [Value.slice.injEq, true_and] at e2
      obtain ⟨rfl, rfl⟩ := e2
      unfold maxLen at hc22
      generalize ps.getD k (0, 0) = x at x0 x1 y0 y1
      go_wp2_with fail
      go_region_with (go_at_call 90; refine (eqTblCol_any _ _ _).mono ?_; rintro e w1 ⟨rfl, hb1⟩; have HB1 := Hid.intro (k_trans (k_drew HB.out) hb1); clear hb1)
      all_goals
        go_wp2
        go_roundw
        case rel => exact ⟨k + 1, by omega, by go_num, HB1⟩
        case measure => simp [intOf]; omega
    · go_wp2
      go_ret
      exact ⟨rfl, HB.out⟩

set_option maxRecDepth 100000 in
set_option maxHeartbeats 2000000 in
theorem eqTblCellS_any (v1 v2 : Value) (cs : List C) (w : World) {z1 z2 : Nat} (h1 : CellsAt w z1 v1 cs) (h2 : CellsAt w z2 v2 cs) :
    Calls Try.prog 109 #[v1, v2] w fun e w' => e = .returned (.bool true) ∧ Below w.heap.size w w' := by
  obtain ⟨a1, cap1, rfl, hlen⟩ := At.form h1
  obtain ⟨a2, cap2, rfl, _⟩ := At.form h2
  unfold maxLen at hlen
  have hne : ((cs.length : Int) != (cs.length : Int)) = false := by simp
  have H1 := Hid.intro h1
  have H2 := Hid.intro h2
  clear h1 h2
  go_enter Try.func109, Try.ntmps109
  go_wp2_with fail
  go_loopw [5] (fun i W => ∃ k : Nat, k ≤ cs.length ∧ i = .int .i64 k ∧ Hid (Below w.heap.size w W)) (fun i _ => cs.length - (intOf i).toNat)
  case atStart => exact ⟨0, Nat.zero_le _, rfl, Below.refl _ _⟩
  case round =>
    obtain ⟨k, hk, rfl, HB⟩ := hrel
    by_cases hlt : k < cs.length
    · have hlt' : (k : Int) < (cs.length : Int) := by omega
      have h0' : (0 : Int) ≤ (k : Int) := by omega
      obtain ⟨b1, off1, cap1', e1, hc11, hc12, hbl1, hx, _⟩ := At.get (H1.out.kept HB.out) hlt
      simp only [Value.slice.injEq, true_and] at e1
      obtain ⟨rfl, rfl⟩ := e1
      unfold maxLen at hc12
      obtain ⟨b2, off2, cap2', e2, hc21, hc22, hbl2, hy, _⟩ := At.get (H2.out.kept HB.out) hlt
      simp only [Value.slice.injEq, true_and] at e2
      obtain ⟨rfl, rfl⟩ := e2
      unfold maxLen at hc22
      generalize cs.getD k dC = x at hx hy
      obtain ⟨x0, x1, x2, x3, x4, x5, x6, x7, x8, x9, x10⟩ := hx
      obtain ⟨y0, y1, y2, y3, y4, y5, y6, y7, y8, y9, y10⟩ := hy
      go_wp2_with fail
      go_region_with (go_at_call 115; refine (eqTblCell_any x _).mono ?_; rintro e w1 ⟨rfl, hb1⟩; have HB1 := Hid.intro (k_trans (k_drew HB.out) hb1); clear hb1)
      all_goals
        go_wp2
        go_roundw
        case rel => exact ⟨k + 1, by omega, by go_num, HB1⟩
        case measure => simp [intOf]; omega
    · go_wp2
      go_ret
      exact ⟨rfl, HB.out⟩

set_option maxRecDepth 100000 in
set_option maxHeartbeats 1000000 in
theorem eqTblRow_any (u1 u2 : Value) (cs : List C) (q : Bool) (w : World) {z1 z2 : Nat} (h1 : CellsAt w z1 u1 cs) (h2 : CellsAt w z2 u2 cs) :
    Calls Try.prog 91 #[.agg #[u1, .bool q], .agg #[u2, .bool q]] w fun e w' => e = .returned (.bool true) ∧ Below w.heap.size w w' := by
  obtain ⟨a1, cap1, rfl, _⟩ := At.form h1
  obtain ⟨a2, cap2, rfl, _⟩ := At.form h2
  have hq : (q != q) = false := by simp
  have H1 := Hid.intro (h1.kept (k_alloc (k_alloc (Below.refl _ _) (.cells #[.slice a1 cs.length cap1, .bool q] 88)) (.cells #[.slice a2 cs.length cap2, .bool q] 88)))
  have H2 := Hid.intro (h2.kept (k_alloc (k_alloc (Below.refl _ _) (.cells #[.slice a1 cs.length cap1, .bool q] 88)) (.cells #[.slice a2 cs.length cap2, .bool q] 88)))
  clear h1 h2
  go_enter Try.func91, Try.ntmps91
  go_wp2_with fail
  refine (eqTblCellS_any _ _ cs _ H1.out H2.out).mono ?_
  rintro e w1 ⟨rfl, hb1⟩
  obtain ⟨hc1, hf1⟩ := bcell hb1
  have hy1 : w.heap.size + 1 < w1.heap.size := by have := hb1.size; simp at this; omega
  have hx1 : w.heap.size < w1.heap.size := by omega
  have HB1 := Hid.intro (k_trans (k_alloc (k_alloc (Below.refl _ _) _) _) hb1)
  clear hb1
  go_wp2
  go_ret
  exact ⟨rfl, HB1.out⟩

set_option maxRecDepth 100000 in
set_option maxHeartbeats 2000000 in
theorem eqTblRowS_any (v1 v2 : Value) (rs : List R) (w : World) {z1 z2 : Nat} (h1 : RowsAt w z1 v1 rs) (h2 : RowsAt w z2 v2 rs) :
    Calls Try.prog 60 #[v1, v2] w fun e w' => e = .returned (.bool true) ∧ Below w.heap.size w w' := by
  obtain ⟨a1, cap1, rfl, hlen⟩ := At.form h1
  obtain ⟨a2, cap2, rfl, _⟩ := At.form h2
  unfold maxLen at hlen
  have hne : ((rs.length : Int) != (rs.length : Int)) = false := by simp
  have H1 := Hid.intro h1
  have H2 := Hid.intro h2
  clear h1 h2
  go_enter Try.func60, Try.ntmps60
  go_wp2_with fail
  go_loopw [5] (fun i W => ∃ k : Nat, k ≤ rs.length ∧ i = .int .i64 k ∧ Hid (Below w.heap.size w W)) (fun i _ => rs.length - (intOf i).toNat)
  case atStart => exact ⟨0, Nat.zero_le _, rfl, Below.refl _ _⟩
  case round =>
    obtain ⟨k, hk, rfl, HB⟩ := hrel
    by_cases hlt : k < rs.length
    · have hlt' : (k : Int) < (rs.length : Int) := by omega
      have h0' : (0 : Int) ≤ (k : Int) := by omega
      obtain ⟨b1, off1, cap1', e1, hc11, hc12, hbl1, u1, x0, x1, x2⟩ := At.get (H1.out.kept HB.out) hlt
      simp only [Value.slice.injEq, true_and] at e1
      obtain ⟨rfl, rfl⟩ := e1
      unfold maxLen at hc12
      obtain ⟨b2, off2, cap2', e2, hc21, hc22, hbl2, u2, y0, y1, y2⟩ := At.get (H2.out.kept HB.out) hlt
      simp only [Value.slice.injEq, true_and] at e2
      obtain ⟨rfl, rfl⟩ := e2
      unfold maxLen at hc22
      generalize rs.getD k dR = x at x1 x2 y1 y2
      obtain ⟨c1, d1, rfl, _⟩ := At.form x2
      obtain ⟨c2, d2, rfl, _⟩ := At.form y2
      have X2 := Hid.intro x2
      have Y2 := Hid.intro y2
      clear x2 y2
      go_wp2_with fail
      go_region_with (go_at_call 91; refine (eqTblRow_any _ _ x.cells x.whole _ (X2.out.kept (k_drew (Below.refl _ _))) (Y2.out.kept (k_drew (Below.refl _ _)))).mono ?_; rintro e w1 ⟨rfl, hb1⟩; have HB1 := Hid.intro (k_trans (k_drew HB.out) hb1); clear hb1)
      all_goals
        go_wp2
        go_roundw
        case rel => exact ⟨k + 1, by omega, by go_num, HB1⟩
        case measure => simp [intOf]; omega
    · go_wp2
      go_ret
      exact ⟨rfl, HB.out⟩

set_option maxRecDepth 100000 in
set_option maxHeartbeats 1000000 in
theorem eqTblTable_any (v1 v2 : Value) (t : T) (w : World) {z1 z2 : Nat} (h1 : TblAt w z1 v1 t) (h2 : TblAt w z2 v2 t) :
    Calls Try.prog 26 #[v1, v2] w fun e w' => e = .returned (.bool true) ∧ Below w.heap.size w w' := by
  obtain ⟨vc1, vr1, rfl, h1c, h1r⟩ := h1
  obtain ⟨vc2, vr2, rfl, h2c, h2r⟩ := h2
  obtain ⟨ac1, cc1, rfl, _⟩ := At.form h1c
  obtain ⟨ar1, cr1, rfl, _⟩ := At.form h1r
  obtain ⟨ac2, cc2, rfl, _⟩ := At.form h2c
  obtain ⟨ar2, cr2, rfl, _⟩ := At.form h2r
  have hh : (t.head != t.head) = false := by simp
  have hf : (t.foot != t.foot) = false := by simp
  have hg : (t.gap != t.gap) = false := by simp
  have K := Hid.intro (k_alloc (k_alloc (Below.refl w.heap.size w) (.cells #[.slice ac1 t.cols.length cc1, .int .i64 t.head, .int .i64 t.foot, .slice ar1 t.rows.length cr1, .int .i64 t.gap] 56)) (.cells #[.slice ac2 t.cols.length cc2, .int .i64 t.head, .int .i64 t.foot, .slice ar2 t.rows.length cr2, .int .i64 t.gap] 56))
  have HC1 := Hid.intro (h1c.kept K.out)
  have HC2 := Hid.intro (h2c.kept K.out)
  have HR1 := Hid.intro (h1r.kept K.out)
  have HR2 := Hid.intro (h2r.kept K.out)
  clear h1c h1r h2c h2r
  go_enter Try.func26, Try.ntmps26
  go_wp2_with fail
  refine (eqTblColS_any _ _ t.cols _ HC1.out HC2.out).mono ?_
  rintro e w1 ⟨rfl, hb1⟩
  obtain ⟨hc1, hf1⟩ := bcell hb1
  have hy1 : w.heap.size + 1 < w1.heap.size := by have := hb1.size; simp at this; omega
  have hx1 : w.heap.size < w1.heap.size := by omega
  have HB1 := Hid.intro (k_trans K.out hb1)
  have HS1 := Hid.intro (HR1.out.kept hb1)
  have HS2 := Hid.intro (HR2.out.kept hb1)
  clear hb1
  go_wp2_with fail
  refine (eqTblRowS_any _ _ t.rows _ HS1.out HS2.out).mono ?_
  rintro e w2 ⟨rfl, hb2⟩
  obtain ⟨hc2, hf2⟩ := bcell hb2
  have hy2 : w.heap.size + 1 < w2.heap.size := by have := hb2.size; omega
  have hx2 : w.heap.size < w2.heap.size := by omega
  have HB2 := Hid.intro (k_trans HB1.out hb2)
  clear hb2
  go_wp2
  go_ret
  exact ⟨rfl, HB2.out⟩
end Go.Proofs.Ytggmjiddadjilao
namespace Go.Proofs.Ytggmjiddadjilao
open Go.RowKit

/-- what lies ahead of B, or at D and behind it, is as it was -/
structure Out (B D : Nat) (w w' : World) : Prop where
  below : Below B w w'
  block : ∀ k, D ≤ k → k < w.heap.size → w'.heap[k]? = w.heap[k]?
theorem Out.refl (B D : Nat) (w : World) : Out B D w w := ⟨Below.refl _ _, fun _ _ _ => rfl⟩
theorem Out.set {B D : Nat} {a w : World} (h : Out B D a w) {p : Addr} (h1 : B ≤ p.block) (h2 : p.block < D) (v : Value) : Out B D a (w.setCell p v) :=
  ⟨h.below.setCell h1 v, fun k h3 h4 => (Below.heap_setCell _ _ _ _ (by omega)).trans (h.block k h3 h4)⟩
theorem Out.drewN {B D : Nat} {a w : World} (h : Out B D a w) (n : Nat) : Out B D a (w.drewN n) := ⟨⟨h.below.os, h.below.tape, h.below.output, h.below.size, h.below.block⟩, h.block⟩
end Go.Proofs.Ytggmjiddadjilao
