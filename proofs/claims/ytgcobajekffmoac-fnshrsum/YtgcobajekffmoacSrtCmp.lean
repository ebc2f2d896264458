/-
  PROVED HERE: what the program's method rank answers of two claims, and what the library's insertion sort does with a row of claims, by that.
-/
import Derived.Test.YtgcobajekffmoacStblTh
import Derived.Shelf.SlGeneric
import Derived.Shelf.Lay
import Derived.Ground.SlsfProg
namespace Go.Proofs.Ytgcobajekffmoac
open Go.RowKit Go.Shelf Go.Lib Go.Sort

set_option maxHeartbeats 1000000 in
theorem compare_any (a b : Int) (w : World) : Calls Try.prog 61 #[.int .i64 a, .int .i64 b] w fun e w' => e = .returned (.int .i64 (if a < b then -1 else if b < a then 1 else 0)) ∧ w' = w := by
  have hn : ∀ (x : Int) (W : World), Calls Try.prog 73 #[.int .i64 x] W fun e w' => e = .returned (.bool false) ∧ w' = W := fun x W => by
    have hx : (x != x) = false := by simp
    go_enter Try.func73, Try.ntmps73
    go_wp2
    go_ret
    exact ⟨rfl, rfl⟩
  by_cases h1 : a < b
  · rw [if_pos h1]
    go_enter Try.func61, Try.ntmps61
    go_wp2_with (go_at_call 73; refine (hn _ _).mono ?_; rintro e w' ⟨rfl, rfl⟩)
    go_ret
    exact ⟨rfl, rfl⟩
  · rw [if_neg h1]
    by_cases h2 : b < a
    · rw [if_pos h2]
      go_enter Try.func61, Try.ntmps61
      go_wp2_with (go_at_call 73; refine (hn _ _).mono ?_; rintro e w' ⟨rfl, rfl⟩)
      go_ret
      exact ⟨rfl, rfl⟩
    · rw [if_neg h2]
      go_enter Try.func61, Try.ntmps61
      go_wp2_with (go_at_call 73; refine (hn _ _).mono ?_; rintro e w' ⟨rfl, rfl⟩)
      go_ret
      exact ⟨rfl, rfl⟩

set_option maxHeartbeats 1000000 in
theorem rank_any (x y : Cl) (W : World) : Calls Try.prog 52 #[.agg #[.int .i64 x.p, .int .i64 x.w, .int .i64 x.o], .agg #[.int .i64 y.p, .int .i64 y.w, .int .i64 y.o]] W fun e w' => e = .returned (.int .i64 (cfC x y)) ∧ ∃ q os', w' = grow (W.drewN q) os' := by
  have hcon := fun W' => compare_any y.o x.o W'
  have he : cfC x y = (if y.o < x.o then -1 else if x.o < y.o then 1 else 0) := rfl
  rw [he]
  generalize (if y.o < x.o then (-1 : Int) else if x.o < y.o then 1 else 0) = r at hcon
  go_enter Try.func52, Try.ntmps52
  go_wp2_with (go_at_call 61; refine (hcon _).mono ?_; rintro e w' ⟨rfl, rfl⟩)
  go_ret
  exact ⟨rfl, 0, _, by rw [alloc_eq_grow, alloc_eq_grow, grow_grow]; rfl⟩
theorem cmpC (blk off size : Nat) (w : World) : CmpLays Try.prog 52 #[] encC 3 cfC blk off size w := fun _ _ _ _ x y => rank_any x y _
theorem egC : ∀ args w, (callFunc 52 args).run Try.prog w = .ok (.enter 52 args) w := enters_of Try.func52 (by kernel_rfl) rfl

theorem size_insInner (lt : Cl → Cl → Bool) (a : Nat) : ∀ (j : Nat) (d : Array Cl), (insInner lt a j d).size = d.size
  | 0, d => by unfold insInner; rfl
  | j + 1, d => by
    unfold insInner
    split
    · rw [size_insInner lt a j, size_swp]
    · rfl
theorem size_insOuter (lt : Cl → Cl → Bool) (a b : Nat) : ∀ (n i : Nat) (d : Array Cl), b - i = n → (insOuter lt a b i d).size = d.size
  | 0, i, d, hn => by rw [insOuter_stop _ _ _ _ _ (by omega)]
  | n + 1, i, d, hn => by rw [insOuter_go _ _ _ _ _ (by omega), size_insOuter lt a b n (i + 1) _ (by omega), size_insInner]
theorem size_ins (d : Array Cl) (a b : Nat) : (Sort.insertionSort (ltOf cfC) d a b).size = d.size := size_insOuter _ _ _ _ _ _ rfl
shelf_lay_g SlLaysF0.n20 Slsf 20 at Try 71 as insC

/-- what the library's insertion sort does with a part of a row of claims, from a world of the sort's to one -/
theorem ins_any (blk off cap a b : Nat) (d0 d : Array Cl) (w0 w : World) (R : RowK encC 3 w0 blk off d0) (hs : d0.size = d.size) (S : SWK encC 3 w0 blk off d w) (hab : a ≤ b) (hb : b ≤ d.size) (hsz : d.size < 4611686018427387904) :
    Calls Try.prog 71 #[.slice (some ⟨blk, off, none⟩) d.size cap, .int .i64 a, .int .i64 b, .func (.func 52) #[] #[]] w fun e w' =>
      e = .returned (.tuple #[]) ∧ SWK encC 3 w0 blk off (Sort.insertionSort (ltOf cfC) d a b) w' := by
  have hbl : blk < w.heap.size := Nat.lt_of_lt_of_le R.hblk S.le
  refine (AnyQ.insertionSortCmpFunc insC 3 Try.isAgg75 Try.sizeOf75 encC encC_len encC_one cfC 52 #[] blk off cap a b d w egC (cmpC blk off d.size w) (S.holds R.hblk R.hH (by omega)) hbl hab hb hsz).mono ?_
  rintro e w' ⟨rfl, n, os, rfl⟩
  exact ⟨rfl, S.on R.hblk n _ os (size_ins d a b)⟩
end Go.Proofs.Ytgcobajekffmoac
