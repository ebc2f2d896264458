/-
  PROVED HERE: what the laws' own toBrdLine, toTblCell and szTblCell answer; nothing that was in memory is turned.
-/
import Derived.Test.YtggmjiddadjilaqDoorKit
import Derived.WalkLawsBesides
import Derived.WalkSpells
namespace Go.Proofs.YtggmjiddadjilaqDoor
open Go.RowKit

theorem toBrdLine_any (a b : Int) (w : World) :
    Calls Tryd.prog 14 #[.agg #[.int .i64 a, .int .i64 b]] w fun e w' => e = .returned (.agg #[.int .i64 a, .int .i64 b]) ∧ Below w.heap.size w w' := by
  go_enter Tryd.func14, Tryd.ntmps14
  go_wp2
  refine bodyPost_ret (v := .agg #[.int .i64 a, .int .i64 b]) (by simp [results, Tryd.results14, go_sem]) rfl ⟨rfl, ?_⟩
  exact k_alloc (k_alloc (k_alloc (Below.refl _ _) _) _) _

set_option maxRecDepth 100000 in
set_option maxHeartbeats 1000000 in
theorem toTblCell_any (s : ByteArray) (c r a1 b1 a2 b2 a3 b3 a4 b4 : Int) (w : World) :
    Calls Tryd.prog 7 #[.agg #[.string s, .int .i64 c, .int .i64 r, .int .i64 a1, .int .i64 b1, .int .i64 a2, .int .i64 b2, .int .i64 a3, .int .i64 b3, .int .i64 a4, .int .i64 b4]] w
      fun e w' => e = .returned (.agg #[.string s, .int .i64 c, .int .i64 r, .int .i64 a1, .int .i64 b1, .int .i64 a2, .int .i64 b2, .int .i64 a3, .int .i64 b3, .int .i64 a4, .int .i64 b4]) ∧ Below w.heap.size w w' := by
  go_enter Tryd.func7, Tryd.ntmps7
  go_wp2_with fail
  refine (toBrdLine_any _ _ _).mono ?_
  rintro e w1 ⟨rfl, hb1⟩
  obtain ⟨hc1, hf1⟩ := bcell hb1
  have hz1 : w.heap.size + 1 + 1 < w1.heap.size := by have := hb1.size; simp at this; omega
  have hy1 : w.heap.size + 1 < w1.heap.size := by omega
  have hx1 : w.heap.size < w1.heap.size := by omega
  go_wp2_with fail
  refine (toBrdLine_any _ _ _).mono ?_
  rintro e w2 ⟨rfl, hb2⟩
  obtain ⟨hc2, hf2⟩ := bcell hb2
  have hz2 : w.heap.size + 1 + 1 < w2.heap.size := by have := hb2.size; simp at this; omega
  have hy2 : w.heap.size + 1 < w2.heap.size := by omega
  have hx2 : w.heap.size < w2.heap.size := by omega
  go_wp2_with fail
  refine (toBrdLine_any _ _ _).mono ?_
  rintro e w3 ⟨rfl, hb3⟩
  obtain ⟨hc3, hf3⟩ := bcell hb3
  have hz3 : w.heap.size + 1 + 1 < w3.heap.size := by have := hb3.size; simp at this; omega
  have hy3 : w.heap.size + 1 < w3.heap.size := by omega
  have hx3 : w.heap.size < w3.heap.size := by omega
  go_wp2_with fail
  refine (toBrdLine_any _ _ _).mono ?_
  rintro e w4 ⟨rfl, hb4⟩
  obtain ⟨hc4, hf4⟩ := bcell hb4
  have hz4 : w.heap.size + 1 + 1 < w4.heap.size := by have := hb4.size; simp at this; omega
  have hy4 : w.heap.size + 1 < w4.heap.size := by omega
  have hx4 : w.heap.size < w4.heap.size := by omega
  go_wp2
  refine bodyPost_ret (v := .agg #[.string s, .int .i64 c, .int .i64 r, .int .i64 a1, .int .i64 b1, .int .i64 a2, .int .i64 b2, .int .i64 a3, .int .i64 b3, .int .i64 a4, .int .i64 b4]) (by simp [results, Tryd.results7, go_sem, hc1, hc2, hc3, hc4, hy1, hy2, hy3]) rfl ⟨rfl, ?_⟩
  repeat refine k_set ?_ (by dsimp only; omega) _
  refine k_trans ?_ hb4
  repeat refine k_set ?_ (by dsimp only; omega) _
  refine k_trans ?_ hb3
  repeat refine k_set ?_ (by dsimp only; omega) _
  refine k_trans ?_ hb2
  repeat refine k_set ?_ (by dsimp only; omega) _
  refine k_trans ?_ hb1
  exact k_alloc (k_alloc (k_alloc (Below.refl _ _) _) _) _

set_option maxRecDepth 100000 in
theorem szTblCell_any (s : ByteArray) (c r a1 b1 a2 b2 a3 b3 a4 b4 : Int) (n : Int) (hn : n ≤ 1048576) (h0 : 0 ≤ n) (hs : s.size ≤ maxLen) (w : World) :
    Calls Tryd.prog 5 #[.agg #[.string s, .int .i64 c, .int .i64 r, .int .i64 a1, .int .i64 b1, .int .i64 a2, .int .i64 b2, .int .i64 a3, .int .i64 b3, .int .i64 a4, .int .i64 b4], .int .i64 n] w
      fun e w' => e = .returned (.int .i64 (if (s.size : Int) ≤ n then n - s.size else -1)) ∧ Below w.heap.size w w' := by
  unfold maxLen at hs
  by_cases h : (s.size : Int) ≤ n
  · rw [if_pos h]
    have h' : ¬ n - (s.size : Int) < 0 := by omega
    go_enter Tryd.func5, Tryd.ntmps5
    go_wp2
    go_ret
    exact ⟨rfl, k_alloc (Below.refl _ _) _⟩
  · rw [if_neg h]
    have h' : n - (s.size : Int) < 0 := by omega
    go_enter Tryd.func5, Tryd.ntmps5
    go_wp2
    go_ret
    exact ⟨rfl, k_alloc (Below.refl _ _) _⟩
end Go.Proofs.YtggmjiddadjilaqDoor
