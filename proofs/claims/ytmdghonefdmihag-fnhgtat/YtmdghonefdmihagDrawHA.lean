/-
  PROVED HERE: DrawHgtAt draws small numbers and a row, DrawHgtCell small numbers and a cell at a place; nothing that was in memory is turned.
-/
import Derived.Test.YtmdghonefdmihagDrawWK
namespace Go.Proofs.Ytmdghonefdmihag
open Go.RowKit

set_option maxRecDepth 100000 in
set_option maxHeartbeats 1000000 in
theorem drawHgtAt_any (a : Option Addr) (len cap : Nat) (w : World) (h : IsCode w a len cap) :
    Calls Try.prog 4 #[.slice a len cap] w fun e w' => ∃ (aa : Option Addr) (cc : Nat) (l : List Int) (col : Int), e = .returned (.tuple #[.slice aa l.length cc, .int .i64 col]) ∧ l.length ≤ 6 ∧ (∀ x ∈ l, 0 ≤ x ∧ x ≤ 20) ∧ (-1 ≤ col ∧ col ≤ 9) ∧ IntsAt w' (.slice aa l.length cc) l ∧ Below w.heap.size w w' := by
  have HC := Hid.intro h
  clear h
  go_enter Try.func4, Try.ntmps4
  go_wp2_with fail
  refine (open_any _ _ _ _ HC.out).mono ?_
  rintro e w1 ⟨rfl, hR1, hb1⟩
  have hlt1 := hR1.lt
  go_wp2_with fail
  refine (l20Numbers_any _ 0 _ hR1 (by omega)).mono ?_
  rintro e w2 ⟨v, l, rfl, hl, hS, hr2, hR2, hb2⟩
  obtain ⟨aa, cc, rfl⟩ := hr2.form
  go_wp2_with fail
  refine (pick_any _ _ _ _ hR2 (by omega)).mono ?_
  rintro e w4 ⟨col, rfl, hc, hR4, hb4⟩
  obtain ⟨hc0, hc1⟩ := hc (by omega)
  have hK : Hid (Below w.heap.size w w4) := hb1.trans ((hb2.trans hb4).below (by omega) (by omega))
  have hI : Hid (IntsAt w4 (.slice aa l.length cc) l) := (hr2.kept (fun j h0 h1 h2 => hb4.block j h0 (by omega))).at
  have HS := Hid.intro hS
  clear hr2 hb1 hb2 hb4 hR1 hR2 hR4 hc hS
  go_wp2
  go_ret2
  exact ⟨_, _, l, col - 1, rfl, hl, HS.out, by omega, hI.out, hK.out⟩

set_option maxRecDepth 100000 in
set_option maxHeartbeats 1000000 in
theorem drawHgtCell_any (a : Option Addr) (len cap : Nat) (w : World) (h : IsCode w a len cap) :
    Calls Try.prog 5 #[.slice a len cap] w fun e w' => ∃ (aa : Option Addr) (cc : Nat) (l : List Int) (x : GC), e = .returned (.tuple #[.slice aa l.length cc, .agg #[.int .i64 x.row, .int .i64 x.col, .int .i64 x.rows, .int .i64 x.cols, .int .i64 x.ins]]) ∧ l.length ≤ 6 ∧ (∀ x ∈ l, 0 ≤ x ∧ x ≤ 20) ∧ GOk x ∧ IntsAt w' (.slice aa l.length cc) l ∧ Below w.heap.size w w' := by
  have HC := Hid.intro (h.keptC (k_alloc (Below.refl w.heap.size w) (.cells #[.int .i64 0, .int .i64 0, .int .i64 0, .int .i64 0, .int .i64 0] 27)))
  have hsz : (w.alloc (.cells #[.int .i64 0, .int .i64 0, .int .i64 0, .int .i64 0, .int .i64 0] 27)).heap.size = w.heap.size + 1 := by simp
  have K0 := k_alloc (Below.refl w.heap.size w) (.cells #[.int .i64 0, .int .i64 0, .int .i64 0, .int .i64 0, .int .i64 0] 27)
  have X0 := newestB w (.cells #[.int .i64 0, .int .i64 0, .int .i64 0, .int .i64 0, .int .i64 0] 27)
  clear h
  go_enter Try.func5, Try.ntmps5
  go_wp2_with fail
  refine (open_any _ _ _ _ HC.out).mono ?_
  rintro e w1 ⟨rfl, hR1, hb1⟩
  rw [hsz] at hR1 hb1
  have X1 := (hb1.block w.heap.size (by omega)).trans X0
  have K1 := k_trans K0 (by rw [hsz]; exact hb1)
  have hlt1 := hR1.lt
  clear hb1 X0 K0 HC hsz
  go_wp2_with fail
  refine (l20Numbers_any _ 0 _ hR1 (by omega)).mono ?_
  rintro e w2 ⟨v2, l, rfl, hl, hS, hr2, hR2, hb2⟩
  obtain ⟨aa, cc, rfl⟩ := hr2.form
  have HS := Hid.intro hS
  clear hS
  go_wp2_with fail
  refine (l20Place_any _ _ _ hR2 (by omega)).mono ?_
  rintro e w4 ⟨x, rfl, hx, hR4, hb4⟩
  have KB4 : Bk (w.heap.size + 1) w1 w4 := hb2.trans hb4
  have hz2 := hb2.size
  have hr4 : RowI w4 w1.heap.size w4.heap.size (.slice aa l.length cc) l := (hr2.kept (fun j h0 h1 h2 => hb4.block j h0 (by omega))).base (Nat.le_refl _) hb4.size
  have X4 := (KB4.block w.heap.size (by omega) (by omega)).trans X1
  have hBw : Below w.heap.size w w4 := K1.trans (KB4.below (by omega) (by omega))
  have FA := Hid.intro (And.intro (rowI_s5 hr4 (g := w.heap.size) (by omega) (.int .i64 x.row) (.int .i64 x.col) (.int .i64 x.rows) (.int .i64 x.cols) (.int .i64 x.ins)).at (below_s5 hBw (.int .i64 x.row) (.int .i64 x.col) (.int .i64 x.rows) (.int .i64 x.cols) (.int .i64 x.ins)))
  have hz4 : w.heap.size < w4.heap.size := (Array.getElem?_eq_some_iff.1 X4).1
  obtain ⟨⟨q0, q1, q2, q3, q4⟩, qf⟩ := five5 X4
  have f0 := qf 0
  have f1 := qf 1
  have f2 := qf 2
  have f3 := qf 3
  have f4 := qf 4
  have HGx := Hid.intro hx
  clear hb2 hb4 hr2 hr4 hBw qf X4 hx X1 K1 KB4 hR1 hR2 hR4
  go_wp2
  exact bodyPost_ret (v := .tuple #[.slice aa l.length cc, .agg #[.int .i64 x.row, .int .i64 x.col, .int .i64 x.rows, .int .i64 x.cols, .int .i64 x.ins]]) (by first | (simp [results, Try.results5, go_sem, q0, q1, q2, q3, q4]; done) | (simp [results, Try.results5, go_sem, q0, q1, q2, q3, q4, hz4]; done)) rfl ⟨aa, cc, l, x, rfl, hl, HS.out, HGx.out, FA.out.1, FA.out.2⟩
end Go.Proofs.Ytmdghonefdmihag
