/-
  PROVED HERE: a code that lies in memory stays where it is; a table abides five stores ahead of it: for the texts that draw a table. Also: DrawGrdOf draws a table; nothing that was in memory is turned. Also: the laws' own pwGrid says true of two grids in memory with the same cells; nothing that was in memory is turned. Also: the laws' own pwOk says true; nothing in memory is turned.
-/
import Derived.Test.YtggmjiddadjilalB23
import Derived.Test.YtggmjiddadjilalB4
import Derived.Test.YtggmjiddadjilalB7
import Derived.Deep.RegionWith
import Derived.Deep.QuietTactic
import Derived.BigQuiet
namespace Go.Proofs.Ytggmjiddadjilal
open Go.RowKit

theorem IsCode.kept {w w' : World} {a : Option Addr} {len cap : Nat} (h : IsCode w a len cap) (hb : Below w.heap.size w w') : IsCode w' a len cap := by
  obtain ⟨h1, h2, hc⟩ := h
  refine ⟨h1, h2, fun i hi => ?_⟩
  obtain ⟨b, off, z, e, l, c, z0, z1⟩ := hc i hi
  exact ⟨b, off, z, e, Nat.lt_of_lt_of_le l hb.size, (hb.cell (p := ⟨b, off + i, none⟩) l).trans c, z0, z1⟩
/-- a table that lies in memory abides five stores into a block that was there ahead of it -/
theorem Since.st5 {w : World} {z g : Nat} (hg : g < z) (y0 y1 y2 y3 y4 : Value) : Since z w (st5 w g y0 y1 y2 y3 y4) := ⟨(st5_bk w g y0 y1 y2 y3 y4).size, fun k hk hl => (st5_bk w g y0 y1 y2 y3 y4).block k hl (by omega)⟩

end Go.Proofs.Ytggmjiddadjilal
namespace Go.Proofs.Ytggmjiddadjilal
open Go.RowKit

set_option maxRecDepth 100000 in
set_option maxHeartbeats 1000000 in
theorem drawGrdOf_any (a : Option Addr) (len cap : Nat) (w : World) (h : IsCode w a len cap) :
    Calls Try.prog 26 #[.slice a len cap] w fun e w' => ∃ (ac ar : Option Addr) (cc cr : Nat) (t : T), e = .returned (.agg #[.slice ac t.cols.length cc, .int .i64 t.head, .int .i64 t.foot, .slice ar t.rows.length cr, .int .i64 t.gap]) ∧ Drawn t ∧
      ColsAt w' w.heap.size (.slice ac t.cols.length cc) t.cols ∧ RowsAt w' w.heap.size (.slice ar t.rows.length cr) t.rows ∧ Below w.heap.size w w' := by
  have K0 := k_alloc (Below.refl w.heap.size w) (.cells #[.slice none 0 0, .int .i64 0, .int .i64 0, .slice none 0 0, .int .i64 0] 37)
  have HC := Hid.intro (h.kept K0)
  have X0 := newestB w (.cells #[.slice none 0 0, .int .i64 0, .int .i64 0, .slice none 0 0, .int .i64 0] 37)
  clear h
  have hsz : (w.alloc (.cells #[.slice none 0 0, .int .i64 0, .int .i64 0, .slice none 0 0, .int .i64 0] 37)).heap.size = w.heap.size + 1 := by simp
  go_enter Try.func26, Try.ntmps26
  go_wp2_with fail
  refine (open_any _ _ _ _ HC.out).mono ?_
  rintro e w1 ⟨rfl, hR1, hb1⟩
  rw [hsz] at hR1 hb1
  have X1 := (hb1.block w.heap.size (by omega)).trans X0
  have K1 := k_trans K0 (by rw [hsz]; exact hb1)
  have hz1 := hR1.lt
  go_wp2_with fail
  refine (l20AnyTable_any (w.heap.size + 1) 0 12 (by omega) _ hR1 (by omega)).mono ?_
  rintro e w2 ⟨ac, ar, cc, cr, t, rfl, hD, hC2, hW2, hR2, hb2⟩
  have X2 := (hb2.block w.heap.size (by omega) (by omega)).trans X1
  have K2 := K1.trans (hb2.below (by omega) (by omega))
  have hz2 : w.heap.size + 1 < w2.heap.size := hR2.lt
  have hw1 : w.heap.size + 2 ≤ w1.heap.size := by omega
  have HC3 := Hid.intro ((hC2.base hw1).since (Since.st5 (z := w.heap.size + 2) (g := w.heap.size) (by omega) (.slice ac t.cols.length cc) (.int .i64 t.head) (.int .i64 t.foot) (.slice ar t.rows.length cr) (.int .i64 t.gap)))
  have HW3 := Hid.intro ((hW2.base hw1).since (Since.st5 (z := w.heap.size + 2) (g := w.heap.size) (by omega) (.slice ac t.cols.length cc) (.int .i64 t.head) (.int .i64 t.foot) (.slice ar t.rows.length cr) (.int .i64 t.gap)))
  have K3 := Hid.intro (K2.trans ((st5_bk w2 w.heap.size (.slice ac t.cols.length cc) (.int .i64 t.head) (.int .i64 t.foot) (.slice ar t.rows.length cr) (.int .i64 t.gap)).below (by omega) (Nat.le_refl _)))
  have HD := Hid.intro hD
  obtain ⟨⟨x0, x1, x2, x3, x4⟩, y0, y1, y2, y3, y4⟩ := fiveZ X2
  clear hC2 hW2 hR2 hb2 X2 X1 X0 K0 K1 K2 hD HC hR1 hb1
  go_wp2
  exact bodyPost_ret (v := .agg #[.slice ac t.cols.length cc, .int .i64 t.head, .int .i64 t.foot, .slice ar t.rows.length cr, .int .i64 t.gap]) (by simp [results, Try.results26, go_sem, x0, x1, x2, x3, x4]) rfl ⟨ac, ar, cc, cr, t, rfl, HD.out, HC3.out.base (by omega), HW3.out.base (by omega), K3.out⟩
end Go.Proofs.Ytggmjiddadjilal
namespace Go.Proofs.Ytggmjiddadjilal
open Go.RowKit

set_option maxRecDepth 100000 in
set_option maxHeartbeats 1000000 in
theorem pwGrid_any (R C : Int) (v1 v2 : Value) (gs : List GC) (w : World) {z1 z2 : Nat} (h1 : GsAt w z1 v1 gs) (h2 : GsAt w z2 v2 gs) :
    Calls Try.prog 19 #[.agg #[.int .i64 R, .int .i64 C, v1], .agg #[.int .i64 R, .int .i64 C, v2]] w fun e w' => e = .returned (.bool true) ∧ Below w.heap.size w w' := by
  obtain ⟨a1, cap1, rfl, hlen⟩ := At.form h1
  obtain ⟨a2, cap2, rfl, _⟩ := At.form h2
  unfold maxLen at hlen
  have hne : ((gs.length : Int) != (gs.length : Int)) = false := by simp
  have hRR : (R != R) = false := by simp
  have hCC : (C != C) = false := by simp
  have K0 := k_alloc (k_alloc (Below.refl w.heap.size w) (.cells #[.int .i64 R, .int .i64 C, .slice a1 gs.length cap1] 42)) (.cells #[.int .i64 R, .int .i64 C, .slice a2 gs.length cap2] 42)
  have H1 := Hid.intro (h1.kept K0)
  have H2 := Hid.intro (h2.kept K0)
  have HK := Hid.intro K0
  clear h1 h2 K0
  go_enter Try.func19, Try.ntmps19
  go_wp2_with fail
  generalize hW : (w.alloc (.cells #[.int .i64 R, .int .i64 C, .slice a1 gs.length cap1] 42)).alloc (.cells #[.int .i64 R, .int .i64 C, .slice a2 gs.length cap2] 42) = W0 at H1 H2 HK
  have y1 : W0.cell? ⟨w.heap.size, 2, none⟩ = some (.slice a1 gs.length cap1) := by rw [← hW]; exact cellB ((Below.heap_alloc _ _ _ (by simp)).trans (newestB _ _))
  have y2 : W0.cell? ⟨w.heap.size + 1, 2, none⟩ = some (.slice a2 gs.length cap2) := by
    have h := newestB (w.alloc (.cells #[.int .i64 R, .int .i64 C, .slice a1 gs.length cap1] 42)) (.cells #[.int .i64 R, .int .i64 C, .slice a2 gs.length cap2] 42)
    rw [hW] at h
    exact cellB (by simpa using h)
  go_loopw [5] (fun i W => ∃ k n : Nat, k ≤ gs.length ∧ i = .int .i64 k ∧ W = W0.drewN n) (fun i _ => gs.length - (intOf i).toNat)
  case atStart => exact ⟨0, 0, Nat.zero_le _, rfl, hW ▸ rfl⟩
  case round =>
    obtain ⟨k, nd, hk, rfl, rfl⟩ := hrel
    by_cases hlt : k < gs.length
    · obtain ⟨b1, off1, cap1', e1, hc11, hc12, hbl1, x0, _⟩ := At.get H1.out hlt
      simp only [Value.slice.injEq, true_and] at e1
      obtain ⟨rfl, rfl⟩ := e1
      obtain ⟨b2, off2, cap2', e2, hc21, hc22, hbl2, z0, _⟩ := At.get H2.out hlt
      simp only [Value.slice.injEq, true_and] at e2
      obtain ⟨rfl, rfl⟩ := e2
      unfold maxLen at hc12 hc22
      generalize gs.getD k dG = x at x0 z0
      obtain ⟨x0, x1, x2, x3, x4⟩ := x0
      obtain ⟨z0, z1, z2, z3, z4⟩ := z0
      go_wp2_with fail
      go_quiet (fail)
      trace_state
      go_wp2
      go_roundw
      case rel => exact ⟨k + 1, nd + nq, by omega, by go_num, rfl⟩
      case measure => simp [intOf]; omega
    · go_wp2
      go_ret
      exact ⟨rfl, k_drewN HK.out _⟩
end Go.Proofs.Ytggmjiddadjilal
namespace Go.Proofs.Ytggmjiddadjilal
open Go.RowKit

theorem abcOk : txtOkB ⟨#[97, 98, 32, 99]⟩ = true := by decide +kernel
theorem pwOk_any (w : World) : Calls Try.prog 22 #[] w fun e w' => e = .returned (.bool true) ∧ w' = w := by
  go_enter Try.func22, Try.ntmps22
  go_wp2_with fail
  refine (implTxtOk _ _ (by unfold maxLen; decide)).mono ?_
  rw [abcOk]
  rintro e w1 ⟨rfl, rfl⟩
  go_wp2
  go_ret
  exact ⟨rfl, rfl⟩
end Go.Proofs.Ytggmjiddadjilal
