/-
  PROVED HERE: DrawEdtPut draws a table, a row, a place and a cell; nothing that was in memory is turned. Also: what the program's TblCells answers at a table that lies in memory: how many cells rows have together; nothing that was in memory is turned.
-/
import Derived.Test.YtggmjiddadjilajB27
import Derived.Test.YtggmjiddadjilajB5
namespace Go.Proofs.Ytggmjiddadjilaj
open Go.RowKit

theorem IsCode.keptP {w w' : World} {a : Option Addr} {len cap : Nat} (h : IsCode w a len cap) (hb : Below w.heap.size w w') : IsCode w' a len cap := by
  obtain ⟨h1, h2, hc⟩ := h
  refine ⟨h1, h2, fun i hi => ?_⟩
  obtain ⟨b, off, z, e, l, c, z0, z1⟩ := hc i hi
  exact ⟨b, off, z, e, Nat.lt_of_lt_of_le l hb.size, (hb.cell (p := ⟨b, off + i, none⟩) l).trans c, z0, z1⟩
theorem Since.st5p {w : World} {z g : Nat} (hg : g < z) (y0 y1 y2 y3 y4 : Value) : Since z w (st5 w g y0 y1 y2 y3 y4) := ⟨(st5_bk w g y0 y1 y2 y3 y4).size, fun k hk hl => (st5_bk w g y0 y1 y2 y3 y4).block k hl (by omega)⟩
theorem Since.st11p {w : World} {z g : Nat} (hg : g < z) (y0 y1 y2 y3 y4 y5 y6 y7 y8 y9 y10 : Value) : Since z w (st11 w g y0 y1 y2 y3 y4 y5 y6 y7 y8 y9 y10) := ⟨(st11_bk w g y0 y1 y2 y3 y4 y5 y6 y7 y8 y9 y10).size, fun k hk hl => (st11_bk w g y0 y1 y2 y3 y4 y5 y6 y7 y8 y9 y10).block k hl (by omega)⟩
theorem elevenZ {w : World} {g : Nat} {x0 x1 x2 x3 x4 x5 x6 x7 x8 x9 x10 : Value} {t : TypeId} (h : w.heap[g]? = some (.cells #[x0, x1, x2, x3, x4, x5, x6, x7, x8, x9, x10] t)) :
    w.cell? ⟨g, 0, none⟩ = some x0 ∧ w.cell? ⟨g, 1, none⟩ = some x1 ∧ w.cell? ⟨g, 2, none⟩ = some x2 ∧ w.cell? ⟨g, 3, none⟩ = some x3 ∧ w.cell? ⟨g, 4, none⟩ = some x4 ∧ w.cell? ⟨g, 5, none⟩ = some x5 ∧ w.cell? ⟨g, 6, none⟩ = some x6 ∧ w.cell? ⟨g, 7, none⟩ = some x7 ∧ w.cell? ⟨g, 8, none⟩ = some x8 ∧ w.cell? ⟨g, 9, none⟩ = some x9 ∧ w.cell? ⟨g, 10, none⟩ = some x10 :=
  ⟨cellB h, cellB h, cellB h, cellB h, cellB h, cellB h, cellB h, cellB h, cellB h, cellB h, cellB h⟩

set_option maxRecDepth 100000 in
set_option maxHeartbeats 4000000 in
theorem drawEdtPut_any (a : Option Addr) (len cap : Nat) (w : World) (h : IsCode w a len cap) :
    Calls Try.prog 13 #[.slice a len cap] w fun e w' => ∃ (ac ar : Option Addr) (cc cr : Nat) (t : T) (p q : Int) (x : C), e = .returned (.tuple #[.agg #[.slice ac t.cols.length cc, .int .i64 t.head, .int .i64 t.foot, .slice ar t.rows.length cr, .int .i64 t.gap], .int .i64 p, .int .i64 q, .agg #[.string x.s, .int .i64 x.c, .int .i64 x.r, .int .i64 x.a1, .int .i64 x.b1, .int .i64 x.a2, .int .i64 x.b2, .int .i64 x.a3, .int .i64 x.b3, .int .i64 x.a4, .int .i64 x.b4]]) ∧ Drawn t ∧ (0 ≤ p ∧ p ≤ 5) ∧ (0 ≤ q ∧ q ≤ 4) ∧ x.s.size ≤ 61 ∧
      ColsAt w' w.heap.size (.slice ac t.cols.length cc) t.cols ∧ RowsAt w' w.heap.size (.slice ar t.rows.length cr) t.rows ∧ Below w.heap.size w w' := by
  have K0 := k_alloc (k_alloc (Below.refl w.heap.size w) (.cells #[.slice none 0 0, .int .i64 0, .int .i64 0, .slice none 0 0, .int .i64 0] 37)) (.cells #[.string ⟨#[]⟩, .int .i64 0, .int .i64 0, .int .i64 0, .int .i64 0, .int .i64 0, .int .i64 0, .int .i64 0, .int .i64 0, .int .i64 0, .int .i64 0] 41)
  have HC := Hid.intro (h.keptP K0)
  have X0 := (Below.heap_alloc (w.alloc (.cells #[.slice none 0 0, .int .i64 0, .int .i64 0, .slice none 0 0, .int .i64 0] 37)) (.cells #[.string ⟨#[]⟩, .int .i64 0, .int .i64 0, .int .i64 0, .int .i64 0, .int .i64 0, .int .i64 0, .int .i64 0, .int .i64 0, .int .i64 0, .int .i64 0] 41) w.heap.size (by simp)).trans (newestB w (.cells #[.slice none 0 0, .int .i64 0, .int .i64 0, .slice none 0 0, .int .i64 0] 37))
  have Y0 : ((w.alloc (.cells #[.slice none 0 0, .int .i64 0, .int .i64 0, .slice none 0 0, .int .i64 0] 37)).alloc (.cells #[.string ⟨#[]⟩, .int .i64 0, .int .i64 0, .int .i64 0, .int .i64 0, .int .i64 0, .int .i64 0, .int .i64 0, .int .i64 0, .int .i64 0, .int .i64 0] 41)).heap[w.heap.size + 1]? = some (.cells #[.string ⟨#[]⟩, .int .i64 0, .int .i64 0, .int .i64 0, .int .i64 0, .int .i64 0, .int .i64 0, .int .i64 0, .int .i64 0, .int .i64 0, .int .i64 0] 41) := by
    have := newestB (w.alloc (.cells #[.slice none 0 0, .int .i64 0, .int .i64 0, .slice none 0 0, .int .i64 0] 37)) (.cells #[.string ⟨#[]⟩, .int .i64 0, .int .i64 0, .int .i64 0, .int .i64 0, .int .i64 0, .int .i64 0, .int .i64 0, .int .i64 0, .int .i64 0, .int .i64 0] 41)
    simpa using this
  clear h
  have hsz : ((w.alloc (.cells #[.slice none 0 0, .int .i64 0, .int .i64 0, .slice none 0 0, .int .i64 0] 37)).alloc (.cells #[.string ⟨#[]⟩, .int .i64 0, .int .i64 0, .int .i64 0, .int .i64 0, .int .i64 0, .int .i64 0, .int .i64 0, .int .i64 0, .int .i64 0, .int .i64 0] 41)).heap.size = w.heap.size + 2 := by simp
  go_enter Try.func13, Try.ntmps13
  go_wp2_with fail
  refine (open_any _ _ _ _ HC.out).mono ?_
  rintro e w1 ⟨rfl, hR1, hb1⟩
  rw [hsz] at hR1 hb1
  have X1 := (hb1.block w.heap.size (by omega)).trans X0
  have Y1 := (hb1.block (w.heap.size + 1) (by omega)).trans Y0
  have K1 := k_trans K0 (by rw [hsz]; exact hb1)
  have hz1 := hR1.lt
  go_wp2_with fail
  refine (l20AnyTable_any (w.heap.size + 2) 0 16 (by omega) _ hR1 (by omega)).mono ?_
  rintro e w2 ⟨ac, ar, cc, cr, t, rfl, hD, hC2, hW2, hR2, hb2⟩
  have X2 := (hb2.block w.heap.size (by omega) (by omega)).trans X1
  have Y2 := (hb2.block (w.heap.size + 1) (by omega) (by omega)).trans Y1
  have K2 := K1.trans (hb2.below (by omega) (by omega))
  have hz2 : w.heap.size + 2 < w2.heap.size := hR2.lt
  go_wp2_with fail
  refine (pick_any _ _ _ _ hR2 (by omega)).mono ?_
  rintro e w3 ⟨p, rfl, hp, hR3, hb3⟩
  obtain ⟨p1, p2⟩ := hp (by omega)
  have X3 := (hb3.block w.heap.size (by omega) (by omega)).trans X2
  have Y3 := (hb3.block (w.heap.size + 1) (by omega) (by omega)).trans Y2
  have hz3 : w.heap.size + 2 < w3.heap.size := hR3.lt
  have K3 := K2.trans (hb3.below (by omega) (by omega))
  go_wp2_with fail
  refine (pick_any _ _ _ _ hR3 (by omega)).mono ?_
  rintro e w4 ⟨q, rfl, hq, hR4, hb4⟩
  obtain ⟨q1, q2⟩ := hq (by omega)
  have X4 := (hb4.block w.heap.size (by omega) (by omega)).trans X3
  have Y4 := (hb4.block (w.heap.size + 1) (by omega) (by omega)).trans Y3
  have hz4 : w.heap.size + 2 < w4.heap.size := hR4.lt
  have K4 := K3.trans (hb4.below (by omega) (by omega))
  go_wp2_with fail
  refine (l20Cell_any _ _ 12 (by omega) _ hR4 (by omega)).mono ?_
  rintro e w5 ⟨x, rfl, hxs, _, hR5, hb5⟩
  have X5 := (hb5.block w.heap.size (by omega) (by omega)).trans X4
  have Y5 := (hb5.block (w.heap.size + 1) (by omega) (by omega)).trans Y4
  have K5 := K4.trans (hb5.below (by omega) (by omega))
  have hz5 : w.heap.size + 2 < w5.heap.size := hR5.lt
  have s3 : Since (w.heap.size + 3) w2 w3 := ⟨hb3.size, fun k hk hl => hb3.block k hl (by omega)⟩
  have s4 : Since (w.heap.size + 3) w3 w4 := ⟨hb4.size, fun k hk hl => hb4.block k hl (by omega)⟩
  have s5 : Since (w.heap.size + 3) w4 w5 := ⟨hb5.size, fun k hk hl => hb5.block k hl (by omega)⟩
  have hw1 : w.heap.size + 3 ≤ w1.heap.size := by omega
  have Z5 := ((st5_bk w5 w.heap.size (.slice ac t.cols.length cc) (.int .i64 t.head) (.int .i64 t.foot) (.slice ar t.rows.length cr) (.int .i64 t.gap)).block (w.heap.size + 1) (Array.getElem?_eq_some_iff.1 Y5).1 (by omega)).trans Y5
  have HC3 := Hid.intro (((((hC2.base hw1).since s3).since s4).since s5).since (Since.st5p (z := w.heap.size + 3) (g := w.heap.size) (by omega) (.slice ac t.cols.length cc) (.int .i64 t.head) (.int .i64 t.foot) (.slice ar t.rows.length cr) (.int .i64 t.gap)))
  have HW3 := Hid.intro (((((hW2.base hw1).since s3).since s4).since s5).since (Since.st5p (z := w.heap.size + 3) (g := w.heap.size) (by omega) (.slice ac t.cols.length cc) (.int .i64 t.head) (.int .i64 t.foot) (.slice ar t.rows.length cr) (.int .i64 t.gap)))
  have K6 := Hid.intro (K5.trans ((st5_bk w5 w.heap.size (.slice ac t.cols.length cc) (.int .i64 t.head) (.int .i64 t.foot) (.slice ar t.rows.length cr) (.int .i64 t.gap)).below (by omega) (Nat.le_refl _)))
  have hz6 := K6.out.size
  have HD := Hid.intro hD
  obtain ⟨⟨x0, x1, x2, x3, x4⟩, y0, y1, y2, y3, y4⟩ := fiveZ X5
  obtain ⟨z0, z1, z2, z3, z4, z5, z6, z7, z8, z9, z10⟩ := elevenZ Z5
  have fzc : ∀ o, (st5 w5 w.heap.size (.slice ac t.cols.length cc) (.int .i64 t.head) (.int .i64 t.foot) (.slice ar t.rows.length cr) (.int .i64 t.gap)).frozen? ⟨w.heap.size + 1, o, none⟩ = false := fun o => freeB Z5
  obtain ⟨c0, c1, c2, c3, c4, c5, c6, c7, c8, c9, c10⟩ := elevenZ Y5
  have fz5 : ∀ o, w5.frozen? ⟨w.heap.size + 1, o, none⟩ = false := fun o => freeB Y5
  clear hC2 hW2 hR2 hb2 hR3 hb3 hR4 hb4 hR5 hb5 s3 s4 s5 X5 X4 X3 X2 X1 X0 Y5 Y4 Y3 Y2 Y1 Y0 K0 K1 K2 K3 K4 K5 hD hp hq HC hR1 hb1
  go_wp2
  exact bodyPost_ret (v := .tuple #[.agg #[.slice ac t.cols.length cc, .int .i64 t.head, .int .i64 t.foot, .slice ar t.rows.length cr, .int .i64 t.gap], .int .i64 p, .int .i64 q, .agg #[.string x.s, .int .i64 x.c, .int .i64 x.r, .int .i64 x.a1, .int .i64 x.b1, .int .i64 x.a2, .int .i64 x.b2, .int .i64 x.a3, .int .i64 x.b3, .int .i64 x.a4, .int .i64 x.b4]]) (by simp [results, Try.results13, go_sem, x0, x1, x2, x3, x4, c0, c1, c2, c3, c4, c5, c6, c7, c8, c9, c10]) rfl ⟨ac, ar, cc, cr, t, p, q, x, rfl, HD.out, by omega, by omega, hxs, (HC3.out.since (Since.st11p (z := w.heap.size + 3) (g := w.heap.size + 1) (by omega) _ _ _ _ _ _ _ _ _ _ _)).base (by omega), (HW3.out.since (Since.st11p (z := w.heap.size + 3) (g := w.heap.size + 1) (by omega) _ _ _ _ _ _ _ _ _ _ _)).base (by omega), K6.out.trans ((st11_bk _ (w.heap.size + 1) _ _ _ _ _ _ _ _ _ _ _).below (by omega) (by omega))⟩
end Go.Proofs.Ytggmjiddadjilaj
namespace Go.Proofs.Ytggmjiddadjilaj
open Go.RowKit

set_option maxRecDepth 100000 in
set_option maxHeartbeats 1000000 in
theorem implTblCells (ac ar : Option Addr) (cc cr : Nat) (t : T) (hn : totR t.rows ≤ 1048576) (w : World) {z : Nat} (h : RowsAt w z (.slice ar t.rows.length cr) t.rows) :
    Calls Try.prog 20 #[.agg #[.slice ac t.cols.length cc, .int .i64 t.head, .int .i64 t.foot, .slice ar t.rows.length cr, .int .i64 t.gap]] w fun e w' => e = .returned (.int .i64 (cnTo t.rows t.rows.length)) ∧ Below w.heap.size w w' := by
  obtain ⟨_, _, _, hlen⟩ := At.form h
  unfold maxLen at hlen
  have H := Hid.intro h
  clear h
  go_enter Try.func20, Try.ntmps20
  go_wp2_with fail
  go_loopw [3, 5, 9] (fun n _ i W => ∃ k : Nat, k ≤ t.rows.length ∧ i = .int .i64 k ∧ n = .int .i64 (cnTo t.rows k) ∧ Hid (Below w.heap.size w W)) (fun _ _ i _ => t.rows.length - (intOf i).toNat)
  case atStart => exact ⟨0, Nat.zero_le _, rfl, by simp [cnTo], k_alloc (Below.refl _ _) _⟩
  case round =>
    obtain ⟨k, hk, rfl, rfl, HB⟩ := hrel
    have hle := cnTo_le t.rows k
    by_cases hlt : k < t.rows.length
    · obtain ⟨b, off, cap', e', hc1, hc2, hbl, u, hx0, hx1, hx⟩ := At.get (H.out.kept HB.out) hlt
      simp only [Value.slice.injEq, true_and] at e'
      obtain ⟨rfl, rfl⟩ := e'
      have HS := Hid.intro (cnTo_succ hlt)
      have hle2 := cnTo_le t.rows (k + 1)
      rw [HS.out] at hle2
      generalize t.rows.getD k dR = x at hx1 hx HS hle2
      obtain ⟨ua, ucap, rfl, hul⟩ := At.form hx
      unfold maxLen at hc2 hul
      clear hx
      go_wp2
      go_roundw
      case rel => exact ⟨k + 1, by omega, by go_num, by rw [HS.out]; go_num, k_alloc HB.out _⟩
      case measure => simp [intOf]; omega
    · obtain rfl : k = t.rows.length := by omega
      go_wp2
      go_ret
      exact ⟨rfl, HB.out⟩
end Go.Proofs.Ytggmjiddadjilaj
