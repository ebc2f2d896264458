/-
  PROVED HERE: what the closure of the program's EdtRow does: a row without cells comes between the copy's rows, and nothing else that was in memory is turned. Also: what the program's behind answers with the closure of EdtRow: what the copy is behind the closure, or the copy as it was; nothing else is turned.
-/
import Derived.Test.YtggmjiddadjilaoB14
namespace Go.Proofs.Ytggmjiddadjilao
open Go.RowKit

set_option maxRecDepth 100000 in
set_option maxHeartbeats 2000000 in
theorem closRow (xb ab g i n c2 B : Nat) (a1 : Option Addr) (cl c1 : Nat) (hd ft gp : Value) (xs : List Value) (w : World)
    (hx : w.heap[xb]? = some (.cells #[.slice a1 cl c1, hd, ft, .slice (some ⟨g, 0, none⟩) n c2, gp] 56)) (hab : w.heap[ab]? = some (.cells #[.int .i64 (i : Int)] 3))
    (h : w.ownsRow B 88 2 (.slice (some ⟨g, 0, none⟩) n c2) n xs) (h1x : ∀ u ∈ xs, u.oneCell' = true) (hi : i ≤ n) (hn8 : n ≤ 8) (hB : B ≤ w.heap.size) :
    Calls Try.prog 68 #[.pointer (some ⟨xb, 0, none⟩), .pointer (some ⟨ab, 0, none⟩)] w fun e w' => e = .returned (.tuple #[]) ∧ ∃ a9 c9 W9, w.grownBy W9 (some g) ∧ W9.ownsRow B 88 2 (.slice a9 (n + 1) c9) (n + 1) (xs.take (i * 2) ++ [.slice none 0 0, .bool false] ++ xs.drop (i * 2)) ∧ w' = W9.setCell ⟨xb, 3, none⟩ (.slice a9 (n + 1) c9) := by
  have hgl : g < w.heap.size := (row_lt h (b := g) rfl).2
  have hxg : xb ≠ g := fun e => by
    subst e
    rcases h.2 with ⟨e, _⟩ | ⟨g', cap', cur, e, hg, hc, _⟩
    · simp at e
    · simp only [Value.slice.injEq, Option.some.injEq, Addr.mk.injEq, and_true] at e
      obtain ⟨rfl, _, _⟩ := e
      rw [hx] at hc
      simp at hc
  have HK := Hid.intro (insertRow g c2 n i w.heap.size xs B (w.alloc (.cells #[.slice none 0 0, .bool false] 88)) (row_kept9 h (k_alloc (Below.refl _ _) _)) h1x hi hn8 (by simp; omega) (by omega) (newestB _ _))
  have HG := Hid.intro (grown_below (k_alloc (Below.refl w.heap.size w) (.cells #[.slice none 0 0, .bool false] 88)) (r := some g))
  have HX := Hid.intro (alloc_at (o := (.cells #[.slice none 0 0, .bool false] 88)) hx)
  have hxl : xb < w.heap.size := (Array.getElem?_eq_some_iff.1 hx).1
  obtain ⟨x0, x1, x2, x3, x4⟩ := fiveO hx
  have y0 := cellB (p := 0) hab
  clear hx hab h
  go_enter Try.func68, Try.ntmps68
  go_wp2_with (refine HK.out.mono ?_; rintro e w2 ⟨a9, c9, rfl, hO, hg2⟩; have hX2 := (hg2.block xb (by simp; omega) (fun e => hxg (Option.some.inj e))).trans HX.out; obtain ⟨z0, z1, z2, z3, z4⟩ := fiveO hX2; have fz := freeB (p := 3) hX2)
  go_end0
  exact ⟨rfl, a9, c9, w2, grown_trans HG.out hg2, hO, rfl⟩
end Go.Proofs.Ytggmjiddadjilao
namespace Go.Proofs.Ytggmjiddadjilao
open Go.RowKit

set_option maxRecDepth 100000 in
set_option maxHeartbeats 2000000 in
theorem behindRow_no (xb : Nat) (p0 p1 : Value) (a0 a3 : Option Addr) (n0 c0 n3 c3 : Nat) (i1 i2 i4 : Int) (w : World) (hx : w.heap[xb]? = some (.cells #[.slice a0 n0 c0, .int .i64 i1, .int .i64 i2, .slice a3 n3 c3, .int .i64 i4] 56)) :
    Calls Try.prog 56 #[.pointer (some ⟨xb, 0, none⟩), .bool false, .func (.func 68) #[] #[p0, p1]] w fun e w' => e = .returned (.tuple #[.agg #[.slice a0 n0 c0, .int .i64 i1, .int .i64 i2, .slice a3 n3 c3, .int .i64 i4], .bool false]) ∧ Below w.heap.size w w' := by
  have hX := (Below.heap_alloc w (.cells #[.slice none 0 0, .int .i64 0, .int .i64 0, .slice none 0 0, .int .i64 0] 56) xb (Array.getElem?_eq_some_iff.1 hx).1).trans hx
  have hZ := newestB w (.cells #[.slice none 0 0, .int .i64 0, .int .i64 0, .slice none 0 0, .int .i64 0] 56)
  have HK := Hid.intro (k_alloc (Below.refl w.heap.size w) (.cells #[.slice none 0 0, .int .i64 0, .int .i64 0, .slice none 0 0, .int .i64 0] 56))
  have HX := Hid.intro hX
  have HZ := Hid.intro hZ
  clear hx hX hZ
  go_enter Try.func56, Try.ntmps56
  go_upto_region 1 with fail
  generalize w.alloc (.cells #[.slice none 0 0, .int .i64 0, .int .i64 0, .slice none 0 0, .int .i64 0] 56) = W0 at HK HX HZ ⊢
  obtain ⟨z0, z1, z2, z3, z4⟩ := fiveO HX.out
  obtain ⟨d0, d1, d2, d3, d4⟩ := fiveO HZ.out
  have fz : ∀ p, W0.frozen? ⟨w.heap.size, p, none⟩ = false := fun p => freeB HZ.out
  go_wp2
  exact bodyPost_ret (v := .tuple #[.agg #[.slice a0 n0 c0, .int .i64 i1, .int .i64 i2, .slice a3 n3 c3, .int .i64 i4], .bool false]) (by simp [results, Try.results56, go_sem, d0, d1, d2, d3, d4]) rfl ⟨rfl, k_set (k_set (k_set (k_set (k_set HK.out (Nat.le_refl _) _) (Nat.le_refl _) _) (Nat.le_refl _) _) (Nat.le_refl _) _) (Nat.le_refl _) _⟩
set_option maxRecDepth 100000 in
set_option maxHeartbeats 2000000 in
theorem behindRow_yes (xb : Nat) (p0 p1 : Value) (a0 : Option Addr) (n0 c0 : Nat) (i1 i2 i4 : Int) (w : World) (P : Option Addr → Nat → Nat → World → Prop) (hP : ∀ a3 n3 c3 W W', P a3 n3 c3 W → (∀ k, k ≠ w.heap.size → W'.heap[k]? = W.heap[k]?) → W'.heap.size = W.heap.size → W'.os = W.os → W'.tape = W.tape → W'.output = W.output → P a3 n3 c3 W')
    (hcl : Calls Try.prog 68 #[p0, p1] (w.alloc (.cells #[.slice none 0 0, .int .i64 0, .int .i64 0, .slice none 0 0, .int .i64 0] 56)) fun e w' => e = .returned (.tuple #[]) ∧ ∃ a3 n3 c3, P a3 n3 c3 w' ∧ w'.heap[xb]? = some (.cells #[.slice a0 n0 c0, .int .i64 i1, .int .i64 i2, .slice a3 n3 c3, .int .i64 i4] 56) ∧ w'.heap[w.heap.size]? = some (.cells #[.slice none 0 0, .int .i64 0, .int .i64 0, .slice none 0 0, .int .i64 0] 56)) :
    Calls Try.prog 56 #[.pointer (some ⟨xb, 0, none⟩), .bool true, .func (.func 68) #[] #[p0, p1]] w fun e w' => ∃ a3 n3 c3, e = .returned (.tuple #[.agg #[.slice a0 n0 c0, .int .i64 i1, .int .i64 i2, .slice a3 n3 c3, .int .i64 i4], .bool true]) ∧ P a3 n3 c3 w' := by
  have HC := Hid.intro hcl
  have HP := Hid.intro hP
  clear hcl hP
  go_enter Try.func56, Try.ntmps56
  go_upto_region 1 with fail
  generalize w.alloc (.cells #[.slice none 0 0, .int .i64 0, .int .i64 0, .slice none 0 0, .int .i64 0] 56) = W0 at HC ⊢
  go_wp2_with (go_at_call 68; refine HC.out.mono ?_; rintro e w1 ⟨rfl, a3, n3, c3, hP1, hX1, hZ1⟩; have HP1 := Hid.intro hP1; have HX1 := Hid.intro hX1; have HZ1 := Hid.intro hZ1; obtain ⟨z0, z1, z2, z3, z4⟩ := fiveO hX1; obtain ⟨d0, d1, d2, d3, d4⟩ := fiveO hZ1; have fz : ∀ p, w1.frozen? ⟨w.heap.size, p, none⟩ = false := fun p => freeB hZ1; clear hP1 hX1 hZ1)
  exact bodyPost_ret (v := .tuple #[.agg #[.slice a0 n0 c0, .int .i64 i1, .int .i64 i2, .slice a3 n3 c3, .int .i64 i4], .bool true]) (by simp [results, Try.results56, go_sem, d0, d1, d2, d3, d4]) rfl ⟨a3, n3, c3, rfl, HP.out _ _ _ _ _ HP1.out (fun k hk => by iterate 5 rw [Below.heap_setCell _ _ _ _ (by dsimp only; exact hk)]) (by iterate 5 rw [sizeSet]) rfl rfl rfl⟩
end Go.Proofs.Ytggmjiddadjilao
