/-
  PROVED HERE: l20Place draws a cell at a place; nothing that was in memory is turned but the reader's own place.
-/
import Derived.Test.YtmdghonefdmihagDrawNb
import Derived.Test.YtmdghonefdmihagGrdD
namespace Go.Proofs.Ytmdghonefdmihag
open Go.RowKit

theorem lit4 (k : Int) (h0 : 0 ≤ k) (h1 : k < 4) : ∃ v : Int, I64 v ∧ (#[.int .i64 9223372036854775807, .int .i64 (-9223372036854775808), .int .i64 (-1), .int .i64 (-2)] : Array Value)[k.toNat]? = some (.int .i64 v) := by
  rcases (by omega : k = 0 ∨ k = 1 ∨ k = 2 ∨ k = 3) with rfl | rfl | rfl | rfl
  · exact ⟨9223372036854775807, by unfold I64; omega, rfl⟩
  · exact ⟨-9223372036854775808, by unfold I64; omega, rfl⟩
  · exact ⟨-1, by unfold I64; omega, rfl⟩
  · exact ⟨-2, by unfold I64; omega, rfl⟩

theorem five5 {w : World} {g : Nat} {x0 x1 x2 x3 x4 : Value} {t : TypeId} (h : w.heap[g]? = some (.cells #[x0, x1, x2, x3, x4] t)) :
    (w.cell? ⟨g, 0, none⟩ = some x0 ∧ w.cell? ⟨g, 1, none⟩ = some x1 ∧ w.cell? ⟨g, 2, none⟩ = some x2 ∧ w.cell? ⟨g, 3, none⟩ = some x3 ∧ w.cell? ⟨g, 4, none⟩ = some x4) ∧ ∀ p, w.frozen? ⟨g, p, none⟩ = false :=
  ⟨⟨cellB h, cellB h, cellB h, cellB h, cellB h⟩, fun _ => freeB h⟩
def s5 (w : World) (g : Nat) (y0 y1 y2 y3 y4 : Value) : World := ((((w.setCell ⟨g, 0, none⟩ y0).setCell ⟨g, 1, none⟩ y1).setCell ⟨g, 2, none⟩ y2).setCell ⟨g, 3, none⟩ y3).setCell ⟨g, 4, none⟩ y4
theorem rd_s5 {w : World} {r B g : Nat} (h : Rd w r B) (hg : r < g) (y0 y1 y2 y3 y4 : Value) : Rd (s5 w g y0 y1 y2 y3 y4) r B := ((((h.set (p := ⟨g, 0, none⟩) hg y0).set (p := ⟨g, 1, none⟩) hg y1).set (p := ⟨g, 2, none⟩) hg y2).set (p := ⟨g, 3, none⟩) hg y3).set (p := ⟨g, 4, none⟩) hg y4
theorem bk_s5 {a w : World} {r g : Nat} (h : Bk r a w) (hg : a.heap.size ≤ g) (y0 y1 y2 y3 y4 : Value) : Bk r a (s5 w g y0 y1 y2 y3 y4) := ((((h.set (p := ⟨g, 0, none⟩) (.inr hg) y0).set (p := ⟨g, 1, none⟩) (.inr hg) y1).set (p := ⟨g, 2, none⟩) (.inr hg) y2).set (p := ⟨g, 3, none⟩) (.inr hg) y3).set (p := ⟨g, 4, none⟩) (.inr hg) y4
set_option maxRecDepth 100000 in
set_option maxHeartbeats 2000000 in
theorem l20Place_any (r B : Nat) (w : World) (h : Rd w r B) (hB : B ≤ 1000) :
    Calls Try.prog 13 #[.pointer (some ⟨r, 0, none⟩)] w fun e w' => ∃ x : GC, e = .returned (.agg #[.int .i64 x.row, .int .i64 x.col, .int .i64 x.rows, .int .i64 x.cols, .int .i64 x.ins]) ∧ GOk x ∧ Rd w' r (B + 20) ∧ Bk r w w' := by
  have hr := h.lt
  have H := Hid.intro h
  clear h
  go_enter Try.func13, Try.ntmps13
  go_wp2_with fail
  refine (pick_any _ B _ _ (H.out.alloc _) (by omega)).mono ?_
  rintro e w1 ⟨x0, rfl, hx0, hR1, hb1⟩
  obtain ⟨a0, b0⟩ := hx0 (by omega)
  go_wp2_with fail
  refine (pick_any _ _ _ _ hR1 (by omega)).mono ?_
  rintro e w2 ⟨x1, rfl, hx1, hR2, hb2⟩
  obtain ⟨a1, b1⟩ := hx1 (by omega)
  go_wp2_with fail
  refine (pick_any _ _ _ _ hR2 (by omega)).mono ?_
  rintro e w3 ⟨x2, rfl, hx2, hR3, hb3⟩
  obtain ⟨a2, b2⟩ := hx2 (by omega)
  go_wp2_with fail
  refine (pick_any _ _ _ _ hR3 (by omega)).mono ?_
  rintro e w4 ⟨x3, rfl, hx3, hR4, hb4⟩
  obtain ⟨a3, b3⟩ := hx3 (by omega)
  have hb := ((hb1.trans hb2).trans hb3).trans hb4
  have Q4 := (hb.block w.heap.size (by simp) (by omega)).trans (newestB w (.cells #[.int .i64 0, .int .i64 0, .int .i64 0, .int .i64 0, .int .i64 0] 27))
  have K4 := ((Bk.refl r w).alloc (.cells #[.int .i64 0, .int .i64 0, .int .i64 0, .int .i64 0, .int .i64 0] 27)).trans hb
  clear hb1 hb2 hb3 hb4 hb hx0 hx1 hx2 hx3 hR1 hR2 hR3
  have hrw4 : r < w4.heap.size := hR4.lt
  go_wp2_with fail
  refine (pick_any _ _ _ _ (hR4.alloc _) (by omega)).mono ?_
  rintro e w5 ⟨x9, rfl, _, hR5, hb5⟩
  have Q5 := (hb5.block w.heap.size (by have := (Array.getElem?_eq_some_iff.1 Q4).1; simp; omega) (by omega)).trans ((Below.heap_alloc _ _ _ (Array.getElem?_eq_some_iff.1 Q4).1).trans Q4)
  have P5 := (hb5.block w4.heap.size (by simp) (by omega)).trans (newestB w4 (.cells #[.int .i64 x0, .int .i64 x1, .int .i64 x2, .int .i64 x3, .int .i64 0] 27))
  have K5 := (K4.alloc _).trans hb5
  have hwl : w.heap.size < w4.heap.size := (Array.getElem?_eq_some_iff.1 Q4).1
  clear hb5 Q4 K4 hR4
  generalize w4.heap.size = pb at P5 hwl ⊢
  by_cases h9 : x9 = 0
  case neg =>
    have h9' : (x9 == 0) = false := by simpa using h9
    clear h9
    obtain ⟨⟨p0, p1, p2, p3, p4⟩, pf⟩ := five5 P5
    obtain ⟨⟨q0, q1, q2, q3, q4⟩, qf⟩ := five5 Q5
    have f0 := qf 0
    have f1 := qf 1
    have f2 := qf 2
    have f3 := qf 3
    have f4 := qf 4
    have HE := Hid.intro (And.intro (rd_s5 hR5 hr (.int .i64 x0) (.int .i64 x1) (.int .i64 x2) (.int .i64 x3) (.int .i64 0)) (bk_s5 K5 (Nat.le_refl _) (.int .i64 x0) (.int .i64 x1) (.int .i64 x2) (.int .i64 x3) (.int .i64 0)))
    clear qf pf
    go_wp2
    exact bodyPost_ret (v := .agg #[.int .i64 x0, .int .i64 x1, .int .i64 x2, .int .i64 x3, .int .i64 0]) (by simp [results, Try.results13, go_sem, q0, q1, q2, q3, q4]) rfl ⟨⟨x0, x1, x2, x3, 0⟩, rfl, by refine ⟨?_, ?_, ?_, ?_, ?_⟩ <;> (unfold I64; dsimp only; omega), HE.out.1.mono (by omega), HE.out.2⟩
  case pos =>
    subst h9
    go_wp2_with fail
    refine (pick_any _ _ _ _ (hR5.alloc _) (by omega)).mono ?_
    rintro e w6 ⟨k4, rfl, hk4, hR6, hb6⟩
    obtain ⟨ka, kb⟩ := hk4 (by omega)
    obtain ⟨v, hv, hvl⟩ := lit4 k4 ka kb
    have hr5 : r < w5.heap.size := by have := K5.size; omega
    have hcv := new_cell hb6 hr5 _ hvl
    have hpl : pb < w5.heap.size := (Array.getElem?_eq_some_iff.1 P5).1
    have P6 := (hb6.block pb (by simp; omega) (by omega)).trans ((Below.heap_alloc _ _ _ hpl).trans P5)
    have Q6 := (hb6.block w.heap.size (by simp; omega) (by omega)).trans ((Below.heap_alloc _ _ _ (by omega)).trans Q5)
    have K6 := (K5.alloc _).trans hb6
    clear hb6 P5 Q5 K5 hR5 hk4 hvl
    go_wp2_with fail
    refine (pick_any _ _ _ _ hR6 (by omega)).mono ?_
    rintro e w7 ⟨s, rfl, hs, hR7, hb7⟩
    obtain ⟨sa, sb⟩ := hs (by omega)
    have P7 := (hb7.block pb (Array.getElem?_eq_some_iff.1 P6).1 (by omega)).trans P6
    have Q7 := (hb7.block w.heap.size (Array.getElem?_eq_some_iff.1 Q6).1 (by omega)).trans Q6
    have K7 := K6.trans hb7
    have hrpb : r < pb := by omega
    clear hb7 P6 Q6 K6 hR6 hs hcv
    rcases (by omega : s = 0 ∨ s = 1 ∨ s = 2 ∨ s = 3) with rfl | rfl | rfl | rfl
    · have P8 := setB (p := 0) P7 (.int .i64 v)
      have Q8 := (Below.heap_setCell w7 ⟨pb, 0, none⟩ (.int .i64 v) w.heap.size (by show w.heap.size ≠ pb; omega)).trans Q7
      obtain ⟨⟨o0, o1, o2, o3, o4⟩, of⟩ := five5 P7
      have of0 := of 0
      clear of
      obtain ⟨⟨p0, p1, p2, p3, p4⟩, pf⟩ := five5 P8
      obtain ⟨⟨q0, q1, q2, q3, q4⟩, qf⟩ := five5 Q8
      have f0 := qf 0
      have f1 := qf 1
      have f2 := qf 2
      have f3 := qf 3
      have f4 := qf 4
      have HE := Hid.intro (And.intro (rd_s5 (hR7.set (p := ⟨pb, 0, none⟩) hrpb (.int .i64 v)) hr (.int .i64 v) (.int .i64 x1) (.int .i64 x2) (.int .i64 x3) (.int .i64 0)) (bk_s5 (K7.set (p := ⟨pb, 0, none⟩) (.inr (Nat.le_of_lt hwl)) (.int .i64 v)) (Nat.le_refl _) (.int .i64 v) (.int .i64 x1) (.int .i64 x2) (.int .i64 x3) (.int .i64 0)))
      clear qf pf
      go_wp2
      exact bodyPost_ret (v := .agg #[.int .i64 v, .int .i64 x1, .int .i64 x2, .int .i64 x3, .int .i64 0]) (by simp [results, Try.results13, go_sem, q0, q1, q2, q3, q4]) rfl ⟨⟨v, x1, x2, x3, 0⟩, rfl, by refine ⟨?_, ?_, ?_, ?_, ?_⟩ <;> (first | exact hv | (unfold I64; dsimp only; omega)), HE.out.1.mono (by omega), HE.out.2⟩
    · have P8 := setB (p := 1) P7 (.int .i64 v)
      have Q8 := (Below.heap_setCell w7 ⟨pb, 1, none⟩ (.int .i64 v) w.heap.size (by show w.heap.size ≠ pb; omega)).trans Q7
      obtain ⟨⟨o0, o1, o2, o3, o4⟩, of⟩ := five5 P7
      have of1 := of 1
      clear of
      obtain ⟨⟨p0, p1, p2, p3, p4⟩, pf⟩ := five5 P8
      obtain ⟨⟨q0, q1, q2, q3, q4⟩, qf⟩ := five5 Q8
      have f0 := qf 0
      have f1 := qf 1
      have f2 := qf 2
      have f3 := qf 3
      have f4 := qf 4
      have HE := Hid.intro (And.intro (rd_s5 (hR7.set (p := ⟨pb, 1, none⟩) hrpb (.int .i64 v)) hr (.int .i64 x0) (.int .i64 v) (.int .i64 x2) (.int .i64 x3) (.int .i64 0)) (bk_s5 (K7.set (p := ⟨pb, 1, none⟩) (.inr (Nat.le_of_lt hwl)) (.int .i64 v)) (Nat.le_refl _) (.int .i64 x0) (.int .i64 v) (.int .i64 x2) (.int .i64 x3) (.int .i64 0)))
      clear qf pf
      go_wp2
      exact bodyPost_ret (v := .agg #[.int .i64 x0, .int .i64 v, .int .i64 x2, .int .i64 x3, .int .i64 0]) (by simp [results, Try.results13, go_sem, q0, q1, q2, q3, q4]) rfl ⟨⟨x0, v, x2, x3, 0⟩, rfl, by refine ⟨?_, ?_, ?_, ?_, ?_⟩ <;> (first | exact hv | (unfold I64; dsimp only; omega)), HE.out.1.mono (by omega), HE.out.2⟩
    · have P8 := setB (p := 2) P7 (.int .i64 v)
      have Q8 := (Below.heap_setCell w7 ⟨pb, 2, none⟩ (.int .i64 v) w.heap.size (by show w.heap.size ≠ pb; omega)).trans Q7
      obtain ⟨⟨o0, o1, o2, o3, o4⟩, of⟩ := five5 P7
      have of2 := of 2
      clear of
      obtain ⟨⟨p0, p1, p2, p3, p4⟩, pf⟩ := five5 P8
      obtain ⟨⟨q0, q1, q2, q3, q4⟩, qf⟩ := five5 Q8
      have f0 := qf 0
      have f1 := qf 1
      have f2 := qf 2
      have f3 := qf 3
      have f4 := qf 4
      have HE := Hid.intro (And.intro (rd_s5 (hR7.set (p := ⟨pb, 2, none⟩) hrpb (.int .i64 v)) hr (.int .i64 x0) (.int .i64 x1) (.int .i64 v) (.int .i64 x3) (.int .i64 0)) (bk_s5 (K7.set (p := ⟨pb, 2, none⟩) (.inr (Nat.le_of_lt hwl)) (.int .i64 v)) (Nat.le_refl _) (.int .i64 x0) (.int .i64 x1) (.int .i64 v) (.int .i64 x3) (.int .i64 0)))
      clear qf pf
      go_wp2
      exact bodyPost_ret (v := .agg #[.int .i64 x0, .int .i64 x1, .int .i64 v, .int .i64 x3, .int .i64 0]) (by simp [results, Try.results13, go_sem, q0, q1, q2, q3, q4]) rfl ⟨⟨x0, x1, v, x3, 0⟩, rfl, by refine ⟨?_, ?_, ?_, ?_, ?_⟩ <;> (first | exact hv | (unfold I64; dsimp only; omega)), HE.out.1.mono (by omega), HE.out.2⟩
    · have P8 := setB (p := 3) P7 (.int .i64 v)
      have Q8 := (Below.heap_setCell w7 ⟨pb, 3, none⟩ (.int .i64 v) w.heap.size (by show w.heap.size ≠ pb; omega)).trans Q7
      obtain ⟨⟨o0, o1, o2, o3, o4⟩, of⟩ := five5 P7
      have of3 := of 3
      clear of
      obtain ⟨⟨p0, p1, p2, p3, p4⟩, pf⟩ := five5 P8
      obtain ⟨⟨q0, q1, q2, q3, q4⟩, qf⟩ := five5 Q8
      have f0 := qf 0
      have f1 := qf 1
      have f2 := qf 2
      have f3 := qf 3
      have f4 := qf 4
      have HE := Hid.intro (And.intro (rd_s5 (hR7.set (p := ⟨pb, 3, none⟩) hrpb (.int .i64 v)) hr (.int .i64 x0) (.int .i64 x1) (.int .i64 x2) (.int .i64 v) (.int .i64 0)) (bk_s5 (K7.set (p := ⟨pb, 3, none⟩) (.inr (Nat.le_of_lt hwl)) (.int .i64 v)) (Nat.le_refl _) (.int .i64 x0) (.int .i64 x1) (.int .i64 x2) (.int .i64 v) (.int .i64 0)))
      clear qf pf
      go_wp2
      exact bodyPost_ret (v := .agg #[.int .i64 x0, .int .i64 x1, .int .i64 x2, .int .i64 v, .int .i64 0]) (by simp [results, Try.results13, go_sem, q0, q1, q2, q3, q4]) rfl ⟨⟨x0, x1, x2, v, 0⟩, rfl, by refine ⟨?_, ?_, ?_, ?_, ?_⟩ <;> (first | exact hv | (unfold I64; dsimp only; omega)), HE.out.1.mono (by omega), HE.out.2⟩
end Go.Proofs.Ytmdghonefdmihag
