/-
  PROVED HERE: what the program's behind answers with the closure of EdtPut: what the copy is behind the closure, or the copy as it was; nothing else is turned.
-/
import Derived.Test.YtggmjiddadjilajB11
namespace Go.Proofs.Ytggmjiddadjilaj
open Go.RowKit

set_option maxRecDepth 100000 in
set_option maxHeartbeats 2000000 in
theorem behindPut_no (xb : Nat) (p0 p1 p2 p3 : Value) (a0 a3 : Option Addr) (n0 c0 n3 c3 : Nat) (i1 i2 i4 : Int) (w : World) (hx : w.heap[xb]? = some (.cells #[.slice a0 n0 c0, .int .i64 i1, .int .i64 i2, .slice a3 n3 c3, .int .i64 i4] 37)) :
    Calls Try.prog 49 #[.pointer (some ⟨xb, 0, none⟩), .bool false, .func (.func 50) #[] #[p0, p1, p2, p3]] w fun e w' => e = .returned (.tuple #[.agg #[.slice a0 n0 c0, .int .i64 i1, .int .i64 i2, .slice a3 n3 c3, .int .i64 i4], .bool false]) ∧ Below w.heap.size w w' := by
  have hX := (Below.heap_alloc w (.cells #[.slice none 0 0, .int .i64 0, .int .i64 0, .slice none 0 0, .int .i64 0] 37) xb (Array.getElem?_eq_some_iff.1 hx).1).trans hx
  have hZ := newestB w (.cells #[.slice none 0 0, .int .i64 0, .int .i64 0, .slice none 0 0, .int .i64 0] 37)
  have HK := Hid.intro (k_alloc (Below.refl w.heap.size w) (.cells #[.slice none 0 0, .int .i64 0, .int .i64 0, .slice none 0 0, .int .i64 0] 37))
  have HX := Hid.intro hX
  have HZ := Hid.intro hZ
  clear hx hX hZ
  go_enter Try.func49, Try.ntmps49
  go_upto_region 1 with fail
  generalize w.alloc (.cells #[.slice none 0 0, .int .i64 0, .int .i64 0, .slice none 0 0, .int .i64 0] 37) = W0 at HK HX HZ ⊢
  obtain ⟨z0, z1, z2, z3, z4⟩ := fiveO HX.out
  obtain ⟨d0, d1, d2, d3, d4⟩ := fiveO HZ.out
  have fz : ∀ p, W0.frozen? ⟨w.heap.size, p, none⟩ = false := fun p => freeB HZ.out
  go_wp2
  exact bodyPost_ret (v := .tuple #[.agg #[.slice a0 n0 c0, .int .i64 i1, .int .i64 i2, .slice a3 n3 c3, .int .i64 i4], .bool false]) (by simp [results, Try.results49, go_sem, d0, d1, d2, d3, d4]) rfl ⟨rfl, k_set (k_set (k_set (k_set (k_set HK.out (Nat.le_refl _) _) (Nat.le_refl _) _) (Nat.le_refl _) _) (Nat.le_refl _) _) (Nat.le_refl _) _⟩
set_option maxRecDepth 100000 in
set_option maxHeartbeats 2000000 in
theorem behindPut_yes (xb : Nat) (p0 p1 p2 p3 : Value) (a0 a3 : Option Addr) (n0 c0 n3 c3 : Nat) (i1 i2 i4 : Int) (w : World) (P : World → Prop) (hP : ∀ W W', P W → (∀ k, k ≠ w.heap.size → W'.heap[k]? = W.heap[k]?) → W'.heap.size = W.heap.size → W'.os = W.os → W'.tape = W.tape → W'.output = W.output → P W')
    (hcl : Calls Try.prog 50 #[p0, p1, p2, p3] (w.alloc (.cells #[.slice none 0 0, .int .i64 0, .int .i64 0, .slice none 0 0, .int .i64 0] 37)) fun e w' => e = .returned (.tuple #[]) ∧ P w' ∧ w'.heap[xb]? = some (.cells #[.slice a0 n0 c0, .int .i64 i1, .int .i64 i2, .slice a3 n3 c3, .int .i64 i4] 37) ∧ w'.heap[w.heap.size]? = some (.cells #[.slice none 0 0, .int .i64 0, .int .i64 0, .slice none 0 0, .int .i64 0] 37)) :
    Calls Try.prog 49 #[.pointer (some ⟨xb, 0, none⟩), .bool true, .func (.func 50) #[] #[p0, p1, p2, p3]] w fun e w' => e = .returned (.tuple #[.agg #[.slice a0 n0 c0, .int .i64 i1, .int .i64 i2, .slice a3 n3 c3, .int .i64 i4], .bool true]) ∧ P w' := by
  have HC := Hid.intro hcl
  have HP := Hid.intro hP
  clear hcl hP
  go_enter Try.func49, Try.ntmps49
  go_upto_region 1 with fail
  generalize w.alloc (.cells #[.slice none 0 0, .int .i64 0, .int .i64 0, .slice none 0 0, .int .i64 0] 37) = W0 at HC ⊢
  go_wp2_with (go_at_call 50; refine HC.out.mono ?_; rintro e w1 ⟨rfl, hP1, hX1, hZ1⟩; have HP1 := Hid.intro hP1; have HX1 := Hid.intro hX1; have HZ1 := Hid.intro hZ1; obtain ⟨z0, z1, z2, z3, z4⟩ := fiveO hX1; obtain ⟨d0, d1, d2, d3, d4⟩ := fiveO hZ1; have fz : ∀ p, w1.frozen? ⟨w.heap.size, p, none⟩ = false := fun p => freeB hZ1; clear hP1 hX1 hZ1)
  exact bodyPost_ret (v := .tuple #[.agg #[.slice a0 n0 c0, .int .i64 i1, .int .i64 i2, .slice a3 n3 c3, .int .i64 i4], .bool true]) (by simp [results, Try.results49, go_sem, d0, d1, d2, d3, d4]) rfl ⟨rfl, HP.out _ _ HP1.out (fun k hk => by iterate 5 rw [Below.heap_setCell _ _ _ _ (by dsimp only; exact hk)]) (by iterate 5 rw [sizeSet]) rfl rfl rfl⟩
end Go.Proofs.Ytggmjiddadjilaj
