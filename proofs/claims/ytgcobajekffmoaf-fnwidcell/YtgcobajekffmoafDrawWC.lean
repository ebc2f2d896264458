/-
  PROVED HERE: DrawWidCell draws small numbers, what stands between, and a cell at a place; nothing that was in memory is turned.
-/
import Derived.Test.YtgcobajekffmoafDrawPl
namespace Go.Proofs.Ytgcobajekffmoaf
open Go.RowKit

theorem IsCode.keptC {w w' : World} {a : Option Addr} {len cap : Nat} (h : IsCode w a len cap) (hb : Below w.heap.size w w') : IsCode w' a len cap := by
  obtain ⟨h1, h2, hc⟩ := h
  refine ⟨h1, h2, fun i hi => ?_⟩
  obtain ⟨b, off, z, e, l, c, z0, z1⟩ := hc i hi
  exact ⟨b, off, z, e, Nat.lt_of_lt_of_le l hb.size, (hb.cell (p := ⟨b, off + i, none⟩) l).trans c, z0, z1⟩
theorem rowI_s5 {w : World} {B D g : Nat} {v : Value} {l : List Int} (h : RowI w B D v l) (hg : g < B) (y0 y1 y2 y3 y4 : Value) : RowI (s5 w g y0 y1 y2 y3 y4) B D v l :=
  h.kept (fun j _ h1 _ => (Below.heap_setCell _ _ _ _ (by show j ≠ g; omega)).trans ((Below.heap_setCell _ _ _ _ (by show j ≠ g; omega)).trans ((Below.heap_setCell _ _ _ _ (by show j ≠ g; omega)).trans ((Below.heap_setCell _ _ _ _ (by show j ≠ g; omega)).trans (Below.heap_setCell _ _ _ _ (by show j ≠ g; omega))))))
theorem below_s5 {a w : World} (h : Below a.heap.size a w) (y0 y1 y2 y3 y4 : Value) : Below a.heap.size a (s5 w a.heap.size y0 y1 y2 y3 y4) :=
  k_set (k_set (k_set (k_set (k_set h (p := ⟨a.heap.size, 0, none⟩) (Nat.le_refl _) _) (p := ⟨a.heap.size, 1, none⟩) (Nat.le_refl _) _) (p := ⟨a.heap.size, 2, none⟩) (Nat.le_refl _) _) (p := ⟨a.heap.size, 3, none⟩) (Nat.le_refl _) _) (p := ⟨a.heap.size, 4, none⟩) (Nat.le_refl _) _
theorem lit5 (k : Int) (h0 : 0 ≤ k) (h1 : k < 5) : ∃ v : Int, (-1 ≤ v ∧ v ≤ 4) ∧ (#[.int .i64 0, .int .i64 1, .int .i64 2, .int .i64 3, .int .i64 (-1)] : Array Value)[k.toNat]? = some (.int .i64 v) := by
  rcases (by omega : k = 0 ∨ k = 1 ∨ k = 2 ∨ k = 3 ∨ k = 4) with rfl | rfl | rfl | rfl | rfl
  · exact ⟨0, by omega, rfl⟩
  · exact ⟨1, by omega, rfl⟩
  · exact ⟨2, by omega, rfl⟩
  · exact ⟨3, by omega, rfl⟩
  · exact ⟨-1, by omega, rfl⟩

set_option maxRecDepth 100000 in
set_option maxHeartbeats 4000000 in
theorem drawWidCell_any (a : Option Addr) (len cap : Nat) (w : World) (h : IsCode w a len cap) :
    Calls Try.prog 10 #[.slice a len cap] w fun e w' => ∃ (aa : Option Addr) (cc : Nat) (l : List Int) (gap : Int) (x : GC), e = .returned (.tuple #[.slice aa l.length cc, .int .i64 gap, .agg #[.int .i64 x.row, .int .i64 x.col, .int .i64 x.rows, .int .i64 x.cols, .int .i64 x.ins]]) ∧ l.length ≤ 6 ∧ (∀ x ∈ l, 0 ≤ x ∧ x ≤ 20) ∧ (-1 ≤ gap ∧ gap ≤ 4) ∧ GOk x ∧ IntsAt w' (.slice aa l.length cc) l ∧ Below w.heap.size w w' := by
  have HC := Hid.intro (h.keptC (k_alloc (Below.refl w.heap.size w) (.cells #[.int .i64 0, .int .i64 0, .int .i64 0, .int .i64 0, .int .i64 0] 29)))
  have hsz : (w.alloc (.cells #[.int .i64 0, .int .i64 0, .int .i64 0, .int .i64 0, .int .i64 0] 29)).heap.size = w.heap.size + 1 := by simp
  have K0 := k_alloc (Below.refl w.heap.size w) (.cells #[.int .i64 0, .int .i64 0, .int .i64 0, .int .i64 0, .int .i64 0] 29)
  have X0 := newestB w (.cells #[.int .i64 0, .int .i64 0, .int .i64 0, .int .i64 0, .int .i64 0] 29)
  clear h
  go_enter Try.func10, Try.ntmps10
  go_wp2_with fail
  refine (open_any _ _ _ _ HC.out).mono ?_
  rintro e w1 ⟨rfl, hR1, hb1⟩
  rw [hsz] at hR1 hb1
  have X1 := (hb1.block w.heap.size (by omega)).trans X0
  have K1 := k_trans K0 (by rw [hsz]; exact hb1)
  have hlt1 := hR1.lt
  clear hb1 X0 K0 HC
  have HX1 := Hid.intro X1
  clear X1 hsz
  have hRd := hR1.drew
  have hKd := (Bk.refl (w.heap.size + 1) w1).drew
  go_wp2_with fail
  go_region_with (first
    | (go_at_call 15; refine (l20Numbers_any _ 0 _ ?hrd (by omega)).mono ?_; (case hrd => first | exact hRd | exact hRd.alloc _); rintro e w2 ⟨v2, l, rfl, hl, hS, hr2, hR2, hb2⟩; obtain ⟨aa, cc, rfl⟩ := hr2.form; have KB2 : Bk (w.heap.size + 1) w1 w2 := (by first | exact hKd.trans hb2 | exact (hKd.alloc _).trans hb2); have hr2' : RowI w2 w1.heap.size w2.heap.size (.slice aa l.length cc) l := hr2.base (by simp) (Nat.le_refl _); (try (have lit2 := Hid.intro ((hb2.block w1.heap.size (by simp) (by omega)).trans (newestB _ _)))); have HS := Hid.intro hS; clear hb2 hr2 hS)
    | (go_at_call 16; refine (pick_any _ 20 _ _ ?hrd (by omega)).mono ?_; (case hrd => first | exact hR2 | exact hR2.alloc _); rintro e w3 ⟨k5, rfl, hk5, hR3, hb3⟩; obtain ⟨ka, kb⟩ := hk5 (by omega); obtain ⟨v, hv, hvl⟩ := lit5 k5 ka kb; have KB3 : Bk (w.heap.size + 1) w1 w3 := (by first | exact KB2.trans hb3 | exact (KB2.alloc _).trans hb3); have hz2 := KB2.size; have hr3 : RowI w3 w1.heap.size w3.heap.size (.slice aa l.length cc) l := (by first | exact (hr2'.kept (fun j h0 h1 h2 => hb3.block j h0 (by omega))).base (Nat.le_refl _) hb3.size | exact (hr2'.kept (fun j h0 h1 h2 => (hb3.block j (by simp; omega) (by omega)).trans (Below.heap_alloc _ _ _ h0))).base (Nat.le_refl _) (by have := hb3.size; simp at this; omega)); (try (have lit3 := Hid.intro ((hb3.block w1.heap.size (Array.getElem?_eq_some_iff.1 lit2.out).1 (by omega)).trans lit2.out))); (try (have lit3 := Hid.intro ((hb3.block w2.heap.size (by simp) (by omega)).trans (newestB _ _)))); (try (have hcv := (cellB lit3.out).trans hvl)); (try (have hcv0 := new_cell hb3 (by omega) _ hvl)); have hcvA : (w3.alloc (.cells #[.int .i64 0, .int .i64 1, .int .i64 2, .int .i64 3, .int .i64 (-1)] 3)).cell? ⟨w3.heap.size, k5.toNat, none⟩ = some (.int .i64 v) := (cellB (newestB _ _)).trans hvl; have HVL := Hid.intro hvl; clear hb3 hk5 hr2' hvl)
    | (go_at_call 20; refine (l20Place_any _ 21 _ ?hrd (by omega)).mono ?_; (case hrd => first | exact hR3 | exact hR3.alloc _); rintro e w4 ⟨x, rfl, hx, hR4, hb4⟩; have KB4 : Bk (w.heap.size + 1) w1 w4 := (by first | exact KB3.trans hb4 | exact (KB3.alloc _).trans hb4); have hz3 := KB3.size; have hr4 : RowI w4 w1.heap.size w4.heap.size (.slice aa l.length cc) l := (by first | exact (hr3.kept (fun j h0 h1 h2 => hb4.block j h0 (by omega))).base (Nat.le_refl _) hb4.size | exact (hr3.kept (fun j h0 h1 h2 => (hb4.block j (by simp; omega) (by omega)).trans (Below.heap_alloc _ _ _ h0))).base (Nat.le_refl _) (by have := hb4.size; simp at this; omega)); have X4 := (KB4.block w.heap.size (by omega) (by omega)).trans HX1.out; (try (have lit4 := Hid.intro ((hb4.block _ (Array.getElem?_eq_some_iff.1 lit3.out).1 (by omega)).trans lit3.out))); (try (have lit4 := Hid.intro ((hb4.block w3.heap.size (by simp) (by omega)).trans (newestB _ _)))); (try (have hcv4 := (cellB lit4.out).trans HVL.out)); (try (have hcv40 := new_cell hb4 (by omega) _ HVL.out)); have hcvB : (w4.alloc (.cells #[.int .i64 0, .int .i64 1, .int .i64 2, .int .i64 3, .int .i64 (-1)] 3)).cell? ⟨w4.heap.size, k5.toNat, none⟩ = some (.int .i64 v) := (cellB (newestB _ _)).trans HVL.out; have hBw : Below w.heap.size w w4 := K1.trans (KB4.below (by omega) (by omega)); have FA := Hid.intro (And.intro (rowI_s5 hr4 (g := w.heap.size) (by omega) (.int .i64 x.row) (.int .i64 x.col) (.int .i64 x.rows) (.int .i64 x.cols) (.int .i64 x.ins)).at (below_s5 hBw (.int .i64 x.row) (.int .i64 x.col) (.int .i64 x.rows) (.int .i64 x.cols) (.int .i64 x.ins))); have FB := Hid.intro (And.intro (FA.out.1.kept (k_alloc (Below.refl _ _) (.cells #[.int .i64 0, .int .i64 1, .int .i64 2, .int .i64 3, .int .i64 (-1)] 3))) (k_alloc FA.out.2 (.cells #[.int .i64 0, .int .i64 1, .int .i64 2, .int .i64 3, .int .i64 (-1)] 3))); have hz4 : w.heap.size < w4.heap.size := (Array.getElem?_eq_some_iff.1 X4).1; obtain ⟨⟨q0, q1, q2, q3, q4⟩, qf⟩ := five5 X4; have f0 := qf 0; have f1 := qf 1; have f2 := qf 2; have f3 := qf 3; have f4 := qf 4; have HGx := Hid.intro hx; clear hb4 hr3 hr4 hBw qf X4 hx))
  all_goals
    go_wp2
    exact bodyPost_ret (v := .tuple #[.slice aa l.length cc, .int .i64 v, .agg #[.int .i64 x.row, .int .i64 x.col, .int .i64 x.rows, .int .i64 x.cols, .int .i64 x.ins]]) (by first | (simp [results, Try.results10, go_sem, q0, q1, q2, q3, q4]; done) | (simp [results, Try.results10, go_sem, q0, q1, q2, q3, q4, hz4]; done)) rfl ⟨aa, cc, l, v, x, rfl, hl, HS.out, hv, HGx.out, by first | exact FA.out.1 | exact FB.out.1, by first | exact FA.out.2 | exact FB.out.2⟩
end Go.Proofs.Ytgcobajekffmoaf
