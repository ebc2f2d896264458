/-
  PROVED HERE: DrawTxtLines draws a text and a width; nothing that was in memory is turned.
-/
import Derived.Test.YtfkfgmfahoeaoaaDrawTxt
namespace Go.Proofs.Ytfkfgmfahoeaoaa
open Go.RowKit

theorem lit9 (m k : Int) (hm0 : 0 ≤ m) (hm1 : m < 31) (h0 : 0 ≤ k) (h1 : k < 9) : ∃ v : Int, -1 ≤ v ∧ v ≤ 30 ∧ (#[.int .i64 0, .int .i64 1, .int .i64 4, .int .i64 8, .int .i64 12, .int .i64 20, .int .i64 30, .int .i64 (-1), .int .i64 m] : Array Value)[k.toNat]? = some (.int .i64 v) := by
  rcases (by omega : k = 0 ∨ k = 1 ∨ k = 2 ∨ k = 3 ∨ k = 4 ∨ k = 5 ∨ k = 6 ∨ k = 7 ∨ k = 8) with rfl | rfl | rfl | rfl | rfl | rfl | rfl | rfl | rfl
  · exact ⟨0, by omega, by omega, rfl⟩
  · exact ⟨1, by omega, by omega, rfl⟩
  · exact ⟨4, by omega, by omega, rfl⟩
  · exact ⟨8, by omega, by omega, rfl⟩
  · exact ⟨12, by omega, by omega, rfl⟩
  · exact ⟨20, by omega, by omega, rfl⟩
  · exact ⟨30, by omega, by omega, rfl⟩
  · exact ⟨-1, by omega, by omega, rfl⟩
  · exact ⟨m, by omega, by omega, rfl⟩

set_option maxRecDepth 100000 in
set_option maxHeartbeats 2000000 in
theorem drawTxtLines_any (a : Option Addr) (len cap : Nat) (w : World) (h : IsCode w a len cap) :
    Calls Try.prog 20 #[.slice a len cap] w fun e w' => ∃ (s : ByteArray) (q : Int), e = .returned (.tuple #[.string s, .int .i64 q]) ∧ s.size ≤ 61 ∧ -1 ≤ q ∧ q ≤ 30 ∧ Below w.heap.size w w' := by
  have HC := Hid.intro h
  clear h
  go_enter Try.func20, Try.ntmps20
  go_wp2_with fail
  refine (open_any _ _ _ _ HC.out).mono ?_
  rintro e w1 ⟨rfl, hR1, hb1⟩
  have hlt1 := hR1.lt
  have hR1' := hR1.drew
  go_wp2_with fail
  go_region_with (first
    | (go_at_call 28; refine (l20AnyText_any _ 0 _ (by omega) _ hR1' (by omega)).mono ?_; rintro e w2 ⟨s, rfl, hs, hR2, hb2⟩; have hz2 : w1.heap.size ≤ w2.heap.size := hb2.size)
    | (go_at_call_of 38 (31 : Int); refine (pick_any _ 9 _ _ hR2 (by omega)).mono ?_; rintro e w3 ⟨m, rfl, hm, hR3, hb3⟩; obtain ⟨hm0, hm1⟩ := hm (by omega); have hz3 : w2.heap.size ≤ w3.heap.size := hb3.size; clear hm)
    | (go_at_call_of 38 (9 : Int); refine (pick_any _ 10 _ _ (hR3.alloc _) (by omega)).mono ?_; rintro e w4 ⟨k9, rfl, hk9, hR4, hb4⟩; obtain ⟨hk9a, hk9b⟩ := hk9 (by omega); obtain ⟨v9, hv1, hv2, hv3⟩ := lit9 m k9 hm0 hm1 hk9a hk9b; have hcv : w4.cell? ⟨w3.heap.size, k9.toNat, none⟩ = some (.int .i64 v9) := (Joins.cell_of_block ((hb4.block w3.heap.size (by simp) (by omega)).trans (newestT _ _)) _).trans hv3; have K4 := Hid.intro (((((Bk.refl w.heap.size w1).drew.trans hb2).trans hb3).alloc (.cells #[.int .i64 0, .int .i64 1, .int .i64 4, .int .i64 8, .int .i64 12, .int .i64 20, .int .i64 30, .int .i64 (-1), .int .i64 m] 3)).trans hb4); clear hk9 hb4 hv3)
    | (go_at_call_of 38 (9 : Int); refine (pick_any _ 10 _ _ hR3 (by omega)).mono ?_; rintro e w4 ⟨k9, rfl, hk9, hR4, hb4⟩; obtain ⟨hk9a, hk9b⟩ := hk9 (by omega); obtain ⟨v9, hv1, hv2, hv3⟩ := lit9 m k9 hm0 hm1 hk9a hk9b; have hcv : (w4.alloc (.cells #[.int .i64 0, .int .i64 1, .int .i64 4, .int .i64 8, .int .i64 12, .int .i64 20, .int .i64 30, .int .i64 (-1), .int .i64 m] 3)).cell? ⟨w4.heap.size, k9.toNat, none⟩ = some (.int .i64 v9) := (Joins.cell_of_block (newestT _ _) _).trans hv3; have K4 := Hid.intro (((((Bk.refl w.heap.size w1).drew.trans hb2).trans hb3).trans hb4).alloc (.cells #[.int .i64 0, .int .i64 1, .int .i64 4, .int .i64 8, .int .i64 12, .int .i64 20, .int .i64 30, .int .i64 (-1), .int .i64 m] 3)); clear hk9 hb4 hv3))
  all_goals
    go_wp2
    go_ret2
    exact ⟨s, v9, rfl, hs, hv1, hv2, hb1.trans (K4.out.below hb1.size (Nat.le_refl _))⟩
end Go.Proofs.Ytfkfgmfahoeaoaa
