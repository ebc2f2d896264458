/-
  PROVED HERE: DrawBrdBeats draws two borders; nothing that was in memory is turned.
-/
import Derived.Test.YtkppaokkopfklagDrawBrd
import Derived.Test.YtkppaokkopfklagMem
namespace Go.Proofs.Ytkppaokkopfklag
open Go.RowKit

theorem IsCode.kept2 {w w' : World} {a : Option Addr} {len cap : Nat} (h : IsCode w a len cap) (hb : Below w.heap.size w w') : IsCode w' a len cap := by
  obtain ⟨h1, h2, hc⟩ := h
  refine ⟨h1, h2, fun i hi => ?_⟩
  obtain ⟨b, off, z, e, l, c, z0, z1⟩ := hc i hi
  exact ⟨b, off, z, e, Nat.lt_of_lt_of_le l hb.size, (hb.cell (p := ⟨b, off + i, none⟩) l).trans c, z0, z1⟩
set_option maxRecDepth 100000 in
set_option maxHeartbeats 1000000 in
theorem drawBrdBeats_any (a : Option Addr) (len cap : Nat) (w : World) (h : IsCode w a len cap) :
    Calls Try.prog 14 #[.slice a len cap] w fun e w' => ∃ x y z u : Int, e = .returned (.tuple #[.agg #[.int .i64 x, .int .i64 y], .agg #[.int .i64 z, .int .i64 u]]) ∧ Below w.heap.size w w' := by
  have K0 := k_alloc (k_alloc (Below.refl w.heap.size w) (.cells #[.int .i64 0, .int .i64 0] 34)) (.cells #[.int .i64 0, .int .i64 0] 34)
  have HC := Hid.intro (h.kept2 K0)
  have X1 := newest1 w (.cells #[.int .i64 0, .int .i64 0] 34) (.cells #[.int .i64 0, .int .i64 0] 34)
  have X0 := more (newest w (.cells #[.int .i64 0, .int .i64 0] 34)) (.cells #[.int .i64 0, .int .i64 0] 34)
  have hsz : ((w.alloc (.cells #[.int .i64 0, .int .i64 0] 34)).alloc (.cells #[.int .i64 0, .int .i64 0] 34)).heap.size = w.heap.size + 2 := by simp
  clear h
  go_enter Try.func14, Try.ntmps14
  go_wp2_with fail
  refine (open_any _ _ _ _ HC.out).mono ?_
  rintro e w1 ⟨rfl, hR1, hb1⟩
  rw [hsz] at hR1 hb1
  have A0 := (hb1.block w.heap.size (by omega)).trans X0
  have A1 := (hb1.block (w.heap.size + 1) (by omega)).trans X1
  have K1 := k_trans K0 (by rw [hsz]; exact hb1)
  have hz1 := hR1.lt
  clear hb1 X0 X1 K0 HC
  go_wp2_with fail
  refine (l20Brd_any (w.heap.size + 2) 0 _ (by omega) _ hR1 (by omega)).mono ?_
  rintro e w2 ⟨x, y, rfl, hR2, hb2⟩
  go_wp2_with fail
  refine (l20Brd_any (w.heap.size + 2) 6 _ (by omega) _ hR2 (by omega)).mono ?_
  rintro e w3 ⟨z, u, rfl, hR3, hb3⟩
  have hb4 := hb2.trans hb3
  have B0 := (hb4.block w.heap.size (by omega) (by omega)).trans A0
  have B1 := (hb4.block (w.heap.size + 1) (by omega) (by omega)).trans A1
  have HB := Hid.intro (K1.trans (hb4.below (by omega) (by omega)))
  obtain ⟨⟨a0, a1⟩, f0, f1⟩ := two_cells B0
  obtain ⟨⟨b0, b1⟩, g0, g1⟩ := two_cells B1
  clear hb2 hb3 hb4 hR1 hR2 hR3 A0 A1 K1 B0 B1 hsz
  go_wp2
  exact bodyPost_ret (v := .tuple #[.agg #[.int .i64 x, .int .i64 y], .agg #[.int .i64 z, .int .i64 u]]) (by simp [results, Try.results14, go_sem, a0, a1, b0, b1]) rfl ⟨x, y, z, u, rfl, k_set (k_set (k_set (k_set HB.out (Nat.le_refl _) _) (Nat.le_refl _) _) (Nat.le_add_right _ _) _) (Nat.le_add_right _ _) _⟩
end Go.Proofs.Ytkppaokkopfklag
