/-
  PROVED HERE: DrawBrdText draws a border, DrawBrdRead a text; nothing that was in memory is turned.
-/
import Derived.Test.YtggmjiddadjilabDoorDrawBrd
import Derived.Test.YtggmjiddadjilabDoorBrdTxt
import Derived.Test.YtggmjiddadjilabDoorBrdRead
import Derived.Test.YtggmjiddadjilabDoorMem
namespace Go.Proofs.YtggmjiddadjilabDoor
open Go.RowKit

theorem IsCode.kept2 {w w' : World} {a : Option Addr} {len cap : Nat} (h : IsCode w a len cap) (hb : Below w.heap.size w w') : IsCode w' a len cap := by
  obtain ⟨h1, h2, hc⟩ := h
  refine ⟨h1, h2, fun i hi => ?_⟩
  obtain ⟨b, off, z, e, l, c, z0, z1⟩ := hc i hi
  exact ⟨b, off, z, e, Nat.lt_of_lt_of_le l hb.size, (hb.cell (p := ⟨b, off + i, none⟩) l).trans c, z0, z1⟩
set_option maxRecDepth 100000 in
set_option maxHeartbeats 400000 in
theorem drawBrdText_any (a : Option Addr) (len cap : Nat) (w : World) (h : IsCode w a len cap) :
    Calls Tryd.prog 5 #[.slice a len cap] w fun e w' => ∃ x y : Int, e = .returned (.agg #[.int .i64 x, .int .i64 y]) ∧ Below w.heap.size w w' := by
  have K0 := k_alloc (Below.refl w.heap.size w) (.cells #[.int .i64 0, .int .i64 0] 24)
  have HC := Hid.intro (h.kept2 K0)
  have X0 := newest w (.cells #[.int .i64 0, .int .i64 0] 24)
  have hsz : (w.alloc (.cells #[.int .i64 0, .int .i64 0] 24)).heap.size = w.heap.size + 1 := by simp
  clear h
  go_enter Tryd.func5, Tryd.ntmps5
  go_wp2_with fail
  refine (open_any _ _ _ _ HC.out).mono ?_
  rintro e w1 ⟨rfl, hR1, hb1⟩
  rw [hsz] at hR1 hb1
  have A0 := (hb1.block w.heap.size (by omega)).trans X0
  have K1 := k_trans K0 (by rw [hsz]; exact hb1)
  have hz1 := hR1.lt
  clear hb1 X0 K0 HC
  go_wp2_with fail
  refine (l20Brd_any (w.heap.size + 1) 0 _ (by omega) _ hR1 (by omega)).mono ?_
  rintro e w2 ⟨x, y, rfl, hR2, hb2⟩
  have B0 := (hb2.block w.heap.size (by omega) (by omega)).trans A0
  have HB := Hid.intro (K1.trans (hb2.below (by omega) (by omega)))
  obtain ⟨⟨a0, a1⟩, f0, f1⟩ := two_cells B0
  clear hb2 hR1 hR2 A0 K1 B0 hsz
  go_wp2
  exact bodyPost_ret (v := .agg #[.int .i64 x, .int .i64 y]) (by simp [results, Tryd.results5, go_sem, a0, a1]) rfl ⟨x, y, rfl, k_set (k_set HB.out (Nat.le_refl _) _) (Nat.le_refl _) _⟩
theorem tenO {w : World} {g : Nat} {x0 x1 x2 x3 x4 x5 x6 x7 x8 x9 : Value} {t : TypeId} (h : w.heap[g]? = some (.cells #[x0, x1, x2, x3, x4, x5, x6, x7, x8, x9] t)) :
    w.cell? ⟨g, 0, none⟩ = some x0 ∧ w.cell? ⟨g, 1, none⟩ = some x1 ∧ w.cell? ⟨g, 2, none⟩ = some x2 ∧ w.cell? ⟨g, 3, none⟩ = some x3 ∧ w.cell? ⟨g, 4, none⟩ = some x4 ∧ w.cell? ⟨g, 5, none⟩ = some x5 ∧ w.cell? ⟨g, 6, none⟩ = some x6 ∧ w.cell? ⟨g, 7, none⟩ = some x7 ∧ w.cell? ⟨g, 8, none⟩ = some x8 ∧ w.cell? ⟨g, 9, none⟩ = some x9 :=
  ⟨Joins.cell_of_block h 0, Joins.cell_of_block h 1, Joins.cell_of_block h 2, Joins.cell_of_block h 3, Joins.cell_of_block h 4, Joins.cell_of_block h 5, Joins.cell_of_block h 6, Joins.cell_of_block h 7, Joins.cell_of_block h 8, Joins.cell_of_block h 9⟩
theorem newestD (w : World) (q : Obj) : (w.alloc q).heap[w.heap.size]? = some q := newest w q
def brdLits (s : ByteArray) : Obj := .cells #[.string s, .string ⟨#[49, 50]⟩, .string ⟨#[52]⟩, .string ⟨#[]⟩, .string ⟨#[52, 48]⟩, .string ⟨#[52, 49]⟩, .string ⟨#[48, 48]⟩, .string ⟨#[120, 49]⟩, .string ⟨#[49, 50, 51]⟩, .string ⟨#[49, 120]⟩] 9
set_option maxRecDepth 100000 in
set_option maxHeartbeats 400000 in
theorem drawBrdRead_any (a : Option Addr) (len cap : Nat) (w : World) (h : IsCode w a len cap) :
    Calls Tryd.prog 7 #[.slice a len cap] w fun e w' => ∃ s : ByteArray, e = .returned (.string s) ∧ Below w.heap.size w w' := by
  go_enter Tryd.func7, Tryd.ntmps7
  go_wp2_with fail
  refine (open_any _ _ _ _ h).mono ?_
  rintro e w1 ⟨rfl, hR1, hb1⟩
  have hz1 := hR1.lt
  go_wp2_with fail
  refine (l20Brd_any w.heap.size 0 _ (by omega) _ hR1 (by omega)).mono ?_
  rintro e w2 ⟨x, y, rfl, hR2, hb2⟩
  have hz2 := hR2.lt
  have HB2 := Hid.intro (hb1.trans (hb2.below (n := w.heap.size) (by omega) (Nat.le_refl _)))
  clear hb1 hb2 hR1
  have KS := Hid.intro (fun W => specBrdText x y W)
  generalize txtB x y = s at KS
  go_wp2_with fail
  refine (KS.out _).mono ?_
  rintro e w3 ⟨rfl, hb3⟩
  have hR3 := hR2.kept hb3
  have hz3 := hb3.size
  have HB3 := Hid.intro (HB2.out.trans (hb3.mono (by omega)))
  have hX4 : (w3.alloc (brdLits s)).heap[w3.heap.size]? = some (brdLits s) := newestD _ _
  have hR4 := hR3.alloc (brdLits s)
  have HB4 := Hid.intro (k_alloc HB3.out (brdLits s))
  have hs4 : (w3.alloc (brdLits s)).heap.size = w3.heap.size + 1 := by simp
  clear hR2 hb3 hR3 HB2 HB3
  unfold brdLits at hX4 hR4 HB4 hs4
  go_wp2_with fail
  refine (pick_any w.heap.size 6 _ _ hR4 (by omega)).mono ?_
  rintro e w5 ⟨k, rfl, hk, hR5, hb5⟩
  obtain ⟨hk0, hk1⟩ := hk (by omega)
  have hX5 := (hb5.block w3.heap.size (by omega) (by omega)).trans hX4
  have HB5 := Hid.intro (HB4.out.trans (hb5.below (n := w.heap.size) (by omega) (Nat.le_refl _)))
  obtain ⟨c0, c1, c2, c3, c4, c5, c6, c7, c8, c9⟩ := tenO hX5
  clear hX4 hX5 hR4 HB4 hs4 hb5 hR5
  rcases (by omega : k = 0 ∨ k = 1 ∨ k = 2 ∨ k = 3 ∨ k = 4 ∨ k = 5 ∨ k = 6 ∨ k = 7 ∨ k = 8 ∨ k = 9) with rfl | rfl | rfl | rfl | rfl | rfl | rfl | rfl | rfl | rfl
  all_goals
    go_wp2
    go_ret
    exact ⟨_, rfl, HB5.out⟩
end Go.Proofs.YtggmjiddadjilabDoor
