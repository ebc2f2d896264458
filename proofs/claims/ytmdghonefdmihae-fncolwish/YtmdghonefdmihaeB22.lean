/-
  PROVED HERE: small facts for columns that are made wide enough: slices of columns, noughts, the table and its grid in their boxes. Also: what is said of a column, as numbers. Also: how wide columns are at least, as lists: wide enough for all cells, and what is said of them. Also: how wide a text would be. Also: how wide columns would be, as lists: wide enough for all texts in one line, and no less than at least. Also: what the program's method rank answers of two claims, and what the library's insertion sort does with a row of claims, by that. Also: plain theory of rotations and of merges in place, of claims; no program.
-/
import Derived.Test.YtmdghonefdmihaeB21
import Derived.Laws.BitsLemmas
import Derived.Shelf.SlGeneric
import Derived.Shelf.Lay
import Derived.Ground.SlsfProg
namespace Go.Proofs.Ytmdghonefdmihae
open Go.RowKit

theorem kind_small {a : Int} (h : -9223372036854775808 ≤ a ∧ a ≤ 9223372036854775807) : IntKind.i64.wrap a = a := by rw [IntKind.wrap_i64]; omega
theorem slice_facts {cn m C : Nat} (h : cn + (m + 1) ≤ C) (hC : C ≤ 88) : (cn : Int) ≤ (cn : Int) + ((m : Int) + 1) ∧ (cn : Int) + ((m : Int) + 1) ≤ (C : Int) ∧ (0 : Int) ≤ (cn : Int) + ((m : Int) + 1) ∧ ((cn : Int) + ((m : Int) + 1)).toNat = cn + (m + 1) ∧ cn + (m + 1) - cn = m + 1 ∧ ¬ C = cn ∧ wrap64 ((cn : Int) + ((m : Int) + 1)) = (cn : Int) + ((m : Int) + 1) ∧ IntKind.i64.wrap ((cn : Int) + ((m : Int) + 1)) = (cn : Int) + ((m : Int) + 1) := by
  have e : -9223372036854775808 ≤ (cn : Int) + ((m : Int) + 1) ∧ (cn : Int) + ((m : Int) + 1) ≤ 9223372036854775807 := by omega
  exact ⟨by omega, by omega, by omega, by omega, by omega, by omega, W_small e, kind_small e⟩
theorem slice_facts2 {cn m C : Nat} (h : cn + (m + 1) ≤ C) (hC : cn + (m + 1) ≤ 88) : (cn : Int) ≤ (cn : Int) + ((m : Int) + 1) ∧ (cn : Int) + ((m : Int) + 1) ≤ (C : Int) ∧ (0 : Int) ≤ (cn : Int) + ((m : Int) + 1) ∧ ((cn : Int) + ((m : Int) + 1)).toNat = cn + (m + 1) ∧ cn + (m + 1) - cn = m + 1 ∧ ¬ C = cn ∧ wrap64 ((cn : Int) + ((m : Int) + 1)) = (cn : Int) + ((m : Int) + 1) ∧ IntKind.i64.wrap ((cn : Int) + ((m : Int) + 1)) = (cn : Int) + ((m : Int) + 1) := by
  have e : -9223372036854775808 ≤ (cn : Int) + ((m : Int) + 1) ∧ (cn : Int) + ((m : Int) + 1) ≤ 9223372036854775807 := by omega
  exact ⟨by omega, by omega, by omega, by omega, by omega, by omega, W_small e, kind_small e⟩
theorem idx_facts {cn j C : Nat} (h : cn + j < C) (hC : C ≤ 88) : (0 : Int) ≤ (cn : Int) + (j : Int) ∧ (cn : Int) + (j : Int) < (C : Int) ∧ ((cn : Int) + (j : Int)).toNat = cn + j ∧ wrap64 ((cn : Int) + (j : Int)) = (cn : Int) + (j : Int) ∧ IntKind.i64.wrap ((cn : Int) + (j : Int)) = (cn : Int) + (j : Int) := by
  have e : -9223372036854775808 ≤ (cn : Int) + (j : Int) ∧ (cn : Int) + (j : Int) ≤ 9223372036854775807 := by omega
  exact ⟨by omega, by omega, by omega, W_small e, kind_small e⟩
/-- noughts -/
def zeroL (n : Nat) : List Int := List.replicate n 0
theorem zero_up (n : Nat) : UpB (zeroL n) 0 := by
  intro i hi
  simp [zeroL] at hi
  simp [zeroL, List.getD, hi]
/-- the table in its box, the grid in its own -/
def Ws (w : World) (z gb : Nat) (ac ar : Option Addr) (cc cr : Nat) (t : T) (ag : Option Addr) (cg : Nat) (W : World) : Prop :=
  Below w.heap.size w W ∧ TA W z ac ar cc cr t ∧ W.heap[w.heap.size]? = some (.cells #[.slice ac t.cols.length cc, .int .i64 t.head, .int .i64 t.foot, .slice ar t.rows.length cr, .int .i64 t.gap] 26) ∧ GsAt W w.heap.size (.slice ag (gOf t).cells.length cg) (gOf t).cells ∧ W.heap[gb]? = some (.cells #[.int .i64 (gOf t).rows, .int .i64 (gOf t).cols, .slice ag (gOf t).cells.length cg] 35)
theorem Ws.kept {w W W' : World} {z gb : Nat} {ac ar ag : Option Addr} {cc cr cg : Nat} {t : T} (h : Ws w z gb ac ar cc cr t ag cg W) (hb : Below W.heap.size W W') : Ws w z gb ac ar cc cr t ag cg W' :=
  ⟨h.1.trans (hb.mono h.1.size), h.2.1.kept hb, (hb.block _ (Array.getElem?_eq_some_iff.1 h.2.2.1).1).trans h.2.2.1, h.2.2.2.1.kept hb, (hb.block gb (Array.getElem?_eq_some_iff.1 h.2.2.2.2).1).trans h.2.2.2.2⟩
theorem Ws.at {w W : World} {z gb : Nat} {ac ar ag : Option Addr} {cc cr cg : Nat} {t : T} (h : Ws w z gb ac ar cc cr t ag cg W) : W.cell? ⟨w.heap.size, 3, none⟩ = some (.slice ar t.rows.length cr) ∧ W.cell? ⟨w.heap.size, 4, none⟩ = some (.int .i64 t.gap) ∧ W.cell? ⟨gb, 1, none⟩ = some (.int .i64 (gOf t).cols) ∧ W.cell? ⟨gb, 2, none⟩ = some (.slice ag (gOf t).cells.length cg) :=
  ⟨cellB h.2.2.1, cellB h.2.2.1, cellB h.2.2.2.2, cellB h.2.2.2.2⟩
theorem sub_facts {L : List Int} {B : Int} (hub : UpB L B) (hB : B ≤ 50000) {cn m C : Nat} (hll : L.length = C) (h3 : cn + m ≤ C) (hm : m ≤ 4) : (subL L cn m).all wtB = true ∧ (0 ≤ (subL L cn m).sum ∧ (subL L cn m).sum ≤ 200000) ∧ (subL L cn m).length = m := by
  have hc : cn + m ≤ L.length := by omega
  have hb : ∀ x ∈ subL L cn m, 0 ≤ x ∧ x ≤ 50000 := fun x hx => by have := hub.mem (subL_mem hx); omega
  have hs := sum_upB hb
  rw [subL_len hc] at hs
  refine ⟨?_, by omega, subL_len hc⟩
  rw [List.all_eq_true]
  intro x hx
  have := hb x hx
  simp only [wtB, decide_eq_true_eq]
  omega
theorem gap_facts {gap : Int} (hg : 0 ≤ gap ∧ gap ≤ 3) {m : Nat} (hm : m < 4) : 0 ≤ gap * (m : Int) ∧ gap * (m : Int) ≤ 9 := ⟨Int.mul_nonneg hg.1 (by omega), Int.le_trans (Int.mul_le_mul hg.2 (show (m : Int) ≤ 3 by omega) (by omega) (by omega)) (by omega)⟩
end Go.Proofs.Ytmdghonefdmihae
namespace Go.Proofs.Ytmdghonefdmihae
open Go.RowKit

/-- what is said of a column -/
def sd (ps : List (Int × Int)) (q : Int) : Int × Int := if inB q 0 (ps.length - 1) = true then ps.getD q.toNat (0, 0) else (0, 0)
theorem sd_no {ps : List (Int × Int)} {q : Int} (h : inB q 0 (ps.length - 1) = false) : sd ps q = (0, 0) := by unfold sd; rw [if_neg (by rw [h]; simp)]
theorem sd_yes {ps : List (Int × Int)} {k : Nat} (h : k < ps.length) : sd ps k = ps.getD k (0, 0) := by unfold sd; rw [if_pos (inB_true (by omega) (by omega)), Int.toNat_natCast]
def sdT (t : T) (q : Int) : Int × Int := if tblB t = true then sd t.cols q else (0, 0)
end Go.Proofs.Ytmdghonefdmihae
namespace Go.Proofs.Ytmdghonefdmihae
open Go.RowKit

/-- the first k columns have what is said of them, if that is more -/
def fixTo (ps : List (Int × Int)) (l : List Int) : Nat → List Int
  | 0 => l
  | k + 1 => if (sd ps k).1 = 1 then (fixTo ps l k).set k (max ((fixTo ps l k).getD k 0) (sd ps k).2) else fixTo ps l k
theorem fixTo_len (ps : List (Int × Int)) (l : List Int) : ∀ k, (fixTo ps l k).length = l.length
  | 0 => rfl
  | k + 1 => by rw [fixTo]; split; rw [List.length_set]; exact fixTo_len ps l k; exact fixTo_len ps l k
theorem fixTo_out (ps : List (Int × Int)) (l : List Int) {i : Nat} : ∀ k, k ≤ i → (fixTo ps l k).getD i 0 = l.getD i 0
  | 0, _ => rfl
  | k + 1, h => by
    rw [fixTo]
    split
    · rw [← fixTo_out ps l (i := i) k (by omega)]
      simp only [List.getD, List.getElem?_set_ne (show k ≠ i by omega)]
    · exact fixTo_out ps l k (by omega)
/-- what a column has at last -/
def fixV (ps : List (Int × Int)) (k : Nat) (x : Int) : Int := if (sd ps k).1 = 1 then max x (sd ps k).2 else x
theorem fixTo_in (ps : List (Int × Int)) (l : List Int) {i : Nat} (hi : i < l.length) : ∀ k, i < k → (fixTo ps l k).getD i 0 = fixV ps i (l.getD i 0)
  | k + 1, h => by
    rw [fixTo]
    by_cases e : i = k
    · subst e
      rw [fixTo_out ps l i (Nat.le_refl _)]
      have hl : i < (fixTo ps l i).length := by rw [fixTo_len]; exact hi
      unfold fixV
      split
      · simp [List.getD, hl]
      · exact fixTo_out ps l i (Nat.le_refl _)
    · rw [← fixTo_in ps l hi k (by omega)]
      split
      · simp only [List.getD, List.getElem?_set_ne (show k ≠ i by omega)]
      · rfl
theorem fixV_ge (ps : List (Int × Int)) (k : Nat) (x : Int) : x ≤ fixV ps k x := by unfold fixV; split <;> omega
/-- what a cell's text needs -/
def leastP (t : T) (x : GC) : Int := (leastOf (wordsW (textOf t x)) : Nat)
def colN (t : T) : Nat := (gOf t).cols.toNat
def needL (t : T) (p : GC → Int) : List Int := needTo p t.gap (gOf t).cells (zeroL (colN t)) 4
def leastL (t : T) : List Int := fixTo t.cols (needL t (leastP t)) (colN t)
theorem needL_len (t : T) (p : GC → Int) : (needL t p).length = colN t := by unfold needL; rw [needTo_len]; simp [zeroL]
theorem leastL_len (t : T) : (leastL t).length = colN t := by unfold leastL; rw [fixTo_len, needL_len]
theorem colN_of {t : T} {C : Nat} (h : (gOf t).cols = C) : colN t = C := by unfold colN; rw [h]; exact Int.toNat_natCast C
theorem needL_up {t : T} (hD : Drawn t) {p : GC → Int} (hp : ∀ x, p x ≤ 30) : UpB (needL t p) 4800 := by
  obtain ⟨h40, C, hgc, hC, hcel⟩ := cel_of hD
  unfold needL
  rw [colN_of hgc]
  exact need_up hcel h40 (by simp [zeroL]) hp (zero_up _) 4 (by omega)
theorem sd_small {t : T} {k : Nat} (hk : k < colN t) : (sd t.cols k).1 = 1 → 0 ≤ (sd t.cols k).2 ∧ (sd t.cols k).2 ≤ 60 := by
  intro h1
  cases h : tblB t with
  | false => unfold colN at hk; rw [gOf_no h] at hk; exact absurd hk (Nat.not_lt_zero _)
  | true =>
    simp only [tblB, colsB, Bool.and_eq_true, List.all_eq_true] at h
    by_cases hl : k < t.cols.length
    · rw [sd_yes hl] at h1 ⊢
      have := h.2.2.2.1.2 (t.cols.getD k (0, 0)) (by rw [show t.cols.getD k (0, 0) = t.cols[k] by simp [List.getD, hl]]; exact List.getElem_mem hl)
      simp only [colB, decide_eq_true_eq] at this
      omega
    · rw [sd_no (inB_false (by omega))] at h1
      simp at h1
theorem leastL_get {t : T} {k : Nat} (hk : k < colN t) : (leastL t).getD k 0 = fixV t.cols k ((needL t (leastP t)).getD k 0) := by
  unfold leastL
  exact fixTo_in _ _ (by rw [needL_len]; exact hk) _ hk
theorem leastP_le (t : T) (x : GC) : 0 ≤ leastP t x ∧ leastP t x ≤ 30 := by
  unfold leastP
  have := leastOf_le (wordsW (textOf t x))
  omega
theorem leastL_up {t : T} (hD : Drawn t) : UpB (leastL t) 5000 := by
  intro i hi
  rw [leastL_len] at hi
  rw [leastL_get hi]
  have h1 := needL_up hD (fun x => (leastP_le t x).2) i (by rw [needL_len]; exact hi)
  have h2 := sd_small hi
  unfold fixV
  split
  · have := h2 (by assumption); omega
  · omega
theorem leastL_ge (t : T) : LeL (needL t (leastP t)) (leastL t) := by
  refine ⟨by rw [needL_len, leastL_len], fun i hi => ?_⟩
  rw [needL_len] at hi
  rw [leastL_get hi]
  exact fixV_ge _ _ _
/-- no cell is cramped -/
theorem least_has {t : T} (hD : Drawn t) {k : Nat} (hk : k < (gOf t).cells.length) : leastP t ((gOf t).cells.getD k dG) ≤ hasV (leastL t) t.gap ((gOf t).cells.getD k dG) := by
  obtain ⟨h40, C, hgc, hC, hcel⟩ := cel_of hD
  have h1 := (need_ge hcel h40 (l := zeroL C) (by simp [zeroL]) (fun x => (leastP_le t x).2) (zero_up _) 4 (Nat.le_refl _)).2 k hk (by obtain ⟨rn, jn, cn, mn, e1, e2, e3, e4, h1, h2, h3, h4, h5⟩ := (hcel k hk).ex; omega)
  have e : needTo (leastP t) t.gap (gOf t).cells (zeroL C) 4 = needL t (leastP t) := by unfold needL; rw [colN_of hgc]
  rw [e] at h1
  exact Int.le_trans h1 (hasV_le (hcel k hk) (leastL_ge t) (by rw [needL_len, colN_of hgc]) t.gap)
end Go.Proofs.Ytmdghonefdmihae
namespace Go.Proofs.Ytmdghonefdmihae
open Go.RowKit

/-- how wide a text would be -/
def wishOf (s : ByteArray) : Nat := if txtOkB s = true then s.size else 0
theorem wishOf_le (s : ByteArray) : wishOf s ≤ 30 := by
  unfold wishOf
  split
  · rename_i h
    exact ((txtOkB_iff s).1 h).1
  · omega
end Go.Proofs.Ytmdghonefdmihae
namespace Go.Proofs.Ytmdghonefdmihae
open Go.RowKit

/-- the first k numbers: the greater one of two lists -/
def maxTo (a b : List Int) : Nat → List Int
  | 0 => a
  | k + 1 => (maxTo a b k).set k (max (a.getD k 0) (b.getD k 0))
theorem maxTo_len (a b : List Int) : ∀ k, (maxTo a b k).length = a.length
  | 0 => rfl
  | k + 1 => by rw [maxTo, List.length_set]; exact maxTo_len a b k
theorem maxTo_out (a b : List Int) {i : Nat} : ∀ k, k ≤ i → (maxTo a b k).getD i 0 = a.getD i 0
  | 0, _ => rfl
  | k + 1, h => by
    rw [maxTo, ← maxTo_out a b (i := i) k (by omega)]
    simp only [List.getD, List.getElem?_set_ne (show k ≠ i by omega)]
theorem maxTo_in (a b : List Int) {i : Nat} (hi : i < a.length) : ∀ k, i < k → (maxTo a b k).getD i 0 = max (a.getD i 0) (b.getD i 0)
  | k + 1, h => by
    rw [maxTo]
    by_cases e : i = k
    · subst e
      have hl : i < (maxTo a b i).length := by rw [maxTo_len]; exact hi
      simp only [List.getD, List.getElem?_set_self hl, Option.getD_some]
    · rw [← maxTo_in a b hi k (by omega)]
      simp only [List.getD, List.getElem?_set_ne (show k ≠ i by omega)]
/-- how wide a cell's text would be -/
def wishP (t : T) (x : GC) : Int := (wishOf (textOf t x) : Nat)
theorem wishP_le (t : T) (x : GC) : 0 ≤ wishP t x ∧ wishP t x ≤ 30 := by
  unfold wishP
  have := wishOf_le (textOf t x)
  omega
def wishL (t : T) : List Int := maxTo (needL t (wishP t)) (leastL t) (colN t)
theorem wishL_len (t : T) : (wishL t).length = colN t := by unfold wishL; rw [maxTo_len, needL_len]
theorem wishL_get {t : T} {k : Nat} (hk : k < colN t) : (wishL t).getD k 0 = max ((needL t (wishP t)).getD k 0) ((leastL t).getD k 0) := by
  unfold wishL
  exact maxTo_in _ _ (by rw [needL_len]; exact hk) _ hk
theorem wishL_up {t : T} (hD : Drawn t) : UpB (wishL t) 5000 := by
  intro i hi
  rw [wishL_len] at hi
  rw [wishL_get hi]
  have h1 := needL_up hD (fun x => (wishP_le t x).2) i (by rw [needL_len]; exact hi)
  have h2 := leastL_up hD i (by rw [leastL_len]; exact hi)
  omega
theorem wish_least (t : T) : LeL (leastL t) (wishL t) := by
  refine ⟨by rw [wishL_len, leastL_len], fun i hi => ?_⟩
  rw [leastL_len] at hi
  rw [wishL_get hi]
  omega
theorem wish_ge (t : T) : LeL (needL t (wishP t)) (wishL t) := by
  refine ⟨by rw [wishL_len, needL_len], fun i hi => ?_⟩
  rw [needL_len] at hi
  rw [wishL_get hi]
  omega
/-- each cell's words stand in one line -/
theorem wish_has {t : T} (hD : Drawn t) {k : Nat} (hk : k < (gOf t).cells.length) : wishP t ((gOf t).cells.getD k dG) ≤ hasV (wishL t) t.gap ((gOf t).cells.getD k dG) := by
  obtain ⟨h40, C, hgc, hC, hcel⟩ := cel_of hD
  have h1 := (need_ge hcel h40 (l := zeroL C) (by simp [zeroL]) (fun x => (wishP_le t x).2) (zero_up _) 4 (Nat.le_refl _)).2 k hk (by obtain ⟨rn, jn, cn, mn, e1, e2, e3, e4, h1, h2, h3, h4, h5⟩ := (hcel k hk).ex; omega)
  have e : needTo (wishP t) t.gap (gOf t).cells (zeroL C) 4 = needL t (wishP t) := by unfold needL; rw [colN_of hgc]
  rw [e] at h1
  exact Int.le_trans h1 (hasV_le (hcel k hk) (wish_ge t) (by rw [needL_len, colN_of hgc]) t.gap)
end Go.Proofs.Ytmdghonefdmihae
namespace Go.Proofs.Ytmdghonefdmihae
open Go.RowKit Go.Shelf Go.Lib Go.Sort

set_option maxHeartbeats 1000000 in
theorem compare_any (a b : Int) (w : World) : Calls Try.prog 94 #[.int .i64 a, .int .i64 b] w fun e w' => e = .returned (.int .i64 (if a < b then -1 else if b < a then 1 else 0)) ∧ w' = w := by
  have hn : ∀ (x : Int) (W : World), Calls Try.prog 98 #[.int .i64 x] W fun e w' => e = .returned (.bool false) ∧ w' = W := fun x W => by
    have hx : (x != x) = false := by simp
    go_enter Try.func98, Try.ntmps98
    go_wp2
    go_ret
    exact ⟨rfl, rfl⟩
  by_cases h1 : a < b
  · rw [if_pos h1]
    go_enter Try.func94, Try.ntmps94
    go_wp2_with (go_at_call 98; refine (hn _ _).mono ?_; rintro e w' ⟨rfl, rfl⟩)
    go_ret
    exact ⟨rfl, rfl⟩
  · rw [if_neg h1]
    by_cases h2 : b < a
    · rw [if_pos h2]
      go_enter Try.func94, Try.ntmps94
      go_wp2_with (go_at_call 98; refine (hn _ _).mono ?_; rintro e w' ⟨rfl, rfl⟩)
      go_ret
      exact ⟨rfl, rfl⟩
    · rw [if_neg h2]
      go_enter Try.func94, Try.ntmps94
      go_wp2_with (go_at_call 98; refine (hn _ _).mono ?_; rintro e w' ⟨rfl, rfl⟩)
      go_ret
      exact ⟨rfl, rfl⟩

set_option maxHeartbeats 1000000 in
theorem rank_any (x y : Cl) (W : World) : Calls Try.prog 89 #[.agg #[.int .i64 x.p, .int .i64 x.w, .int .i64 x.o], .agg #[.int .i64 y.p, .int .i64 y.w, .int .i64 y.o]] W fun e w' => e = .returned (.int .i64 (cfC x y)) ∧ ∃ q os', w' = grow (W.drewN q) os' := by
  have hcon := fun W' => compare_any y.o x.o W'
  have he : cfC x y = (if y.o < x.o then -1 else if x.o < y.o then 1 else 0) := rfl
  rw [he]
  generalize (if y.o < x.o then (-1 : Int) else if x.o < y.o then 1 else 0) = r at hcon
  go_enter Try.func89, Try.ntmps89
  go_wp2_with (go_at_call 94; refine (hcon _).mono ?_; rintro e w' ⟨rfl, rfl⟩)
  go_ret
  exact ⟨rfl, 0, _, by rw [alloc_eq_grow, alloc_eq_grow, grow_grow]; rfl⟩
theorem cmpC (blk off size : Nat) (w : World) : CmpLays Try.prog 89 #[] encC 3 cfC blk off size w := fun _ _ _ _ x y => rank_any x y _
theorem egC : ∀ args w, (callFunc 89 args).run Try.prog w = .ok (.enter 89 args) w := enters_of Try.func89 (by kernel_rfl) rfl

theorem size_insInner (lt : Cl → Cl → Bool) (a : Nat) : ∀ (j : Nat) (d : Array Cl), (insInner lt a j d).size = d.size
  | 0, d => by unfold insInner; rfl
  | j + 1, d => by
    unfold insInner
    split
    · rw [size_insInner lt a j, size_swp]
    · rfl
theorem size_insOuter (lt : Cl → Cl → Bool) (a b : Nat) : ∀ (n i : Nat) (d : Array Cl), b - i = n → (insOuter lt a b i d).size = d.size
  | 0, i, d, hn => by rw [insOuter_stop _ _ _ _ _ (by omega)]
  | n + 1, i, d, hn => by rw [insOuter_go _ _ _ _ _ (by omega), size_insOuter lt a b n (i + 1) _ (by omega), size_insInner]
theorem size_ins (d : Array Cl) (a b : Nat) : (Sort.insertionSort (ltOf cfC) d a b).size = d.size := size_insOuter _ _ _ _ _ _ rfl
shelf_lay_g SlLaysF0.n20 Slsf 20 at Try 96 as insC

/-- what the library's insertion sort does with a part of a row of claims, from a world of the sort's to one -/
theorem ins_any (blk off cap a b : Nat) (d0 d : Array Cl) (w0 w : World) (R : RowK encC 3 w0 blk off d0) (hs : d0.size = d.size) (S : SWK encC 3 w0 blk off d w) (hab : a ≤ b) (hb : b ≤ d.size) (hsz : d.size < 4611686018427387904) :
    Calls Try.prog 96 #[.slice (some ⟨blk, off, none⟩) d.size cap, .int .i64 a, .int .i64 b, .func (.func 89) #[] #[]] w fun e w' =>
      e = .returned (.tuple #[]) ∧ SWK encC 3 w0 blk off (Sort.insertionSort (ltOf cfC) d a b) w' := by
  have hbl : blk < w.heap.size := Nat.lt_of_lt_of_le R.hblk S.le
  refine (AnyQ.insertionSortCmpFunc insC 3 Try.isAgg120 Try.sizeOf120 encC encC_len encC_one cfC 89 #[] blk off cap a b d w egC (cmpC blk off d.size w) (S.holds R.hblk R.hH (by omega)) hbl hab hb hsz).mono ?_
  rintro e w' ⟨rfl, n, os, rfl⟩
  exact ⟨rfl, S.on R.hblk n _ os (size_ins d a b)⟩
end Go.Proofs.Ytmdghonefdmihae
namespace Go.Proofs.Ytmdghonefdmihae
open Go.Sort

/-- the n from a on and the n from b on have changed their places -/
structure SwR (a b n : Nat) (d d' : Array Cl) : Prop where
  size : d'.size = d.size
  left : ∀ t, t < n → d'[a + t]! = d[b + t]!
  right : ∀ t, t < n → d'[b + t]! = d[a + t]!
  rest : ∀ t, (t < a ∨ a + n ≤ t) → (t < b ∨ b + n ≤ t) → d'[t]! = d[t]!
theorem SwR.zero (a b : Nat) (d : Array Cl) : SwR a b 0 d d := ⟨rfl, fun _ h => absurd h (Nat.not_lt_zero _), fun _ h => absurd h (Nat.not_lt_zero _), fun _ _ _ => rfl⟩
theorem SwR.next {a b i : Nat} {d dk : Array Cl} (h : SwR a b i d dk) (hab : a + i < b) (hb : b + i < d.size) : SwR a b (i + 1) d (swp dk (a + i) (b + i)) := by
  have hs := h.size
  refine ⟨by rw [size_swp]; exact hs, fun t ht => ?_, fun t ht => ?_, fun t h1 h2 => ?_⟩
  · by_cases e : t = i
    · subst e
      rw [swp_left _ _ _ (by omega) (by omega)]
      exact h.rest _ (by omega) (by omega)
    · rw [swp_other _ _ _ _ (by omega) (by omega)]
      exact h.left t (by omega)
  · by_cases e : t = i
    · subst e
      rw [swp_right _ _ _ (by omega)]
      exact h.rest _ (by omega) (by omega)
    · rw [swp_other _ _ _ _ (by omega) (by omega)]
      exact h.right t (by omega)
  · rw [swp_other _ _ _ _ (by omega) (by omega)]
    exact h.rest t (by omega) (by omega)


theorem ix {d : Array Cl} {i j : Nat} (h : i = j) : d[i]! = d[j]! := by rw [h]
/-- what stood from a to m and what stood from m to b have changed their places -/
structure RotD (a m b : Nat) (d d' : Array Cl) : Prop where
  size : d'.size = d.size
  low : ∀ t, a ≤ t → t < a + (b - m) → d'[t]! = d[t + (m - a)]!
  high : ∀ t, a + (b - m) ≤ t → t < b → d'[t]! = d[t - (b - m)]!
  rest : ∀ t, t < a ∨ b ≤ t → d'[t]! = d[t]!
theorem RotD.left_none (m b : Nat) (d : Array Cl) : RotD m m b d d :=
  ⟨rfl, fun t _ _ => ix (by omega), fun t h1 h2 => by omega, fun _ _ => rfl⟩
theorem RotD.right_none (a m : Nat) (d : Array Cl) : RotD a m m d d :=
  ⟨rfl, fun t h1 h2 => by omega, fun t _ _ => ix (by omega), fun _ _ => rfl⟩
theorem RotD.more {m i j : Nat} {d dk f : Array Cl} (hj : j < i) (hi : i ≤ m) (h : SwR (m - i) m j d dk) (k : RotD (m - i + j) m (m + j) dk f) : RotD (m - i) m (m + j) d f := by
  refine ⟨k.size.trans h.size, fun t h1 h2 => ?_, fun t h1 h2 => ?_, fun t h1 => ?_⟩
  · rw [k.rest t (by omega), ix (show t = m - i + (t - (m - i)) by omega), h.left _ (by omega)]
    exact ix (by omega)
  · by_cases e : t < m - i + j + j
    · rw [k.low t (by omega) (by omega), ix (show t + (m - (m - i + j)) = m + (t + i - j - m) by omega), h.right _ (by omega)]
      exact ix (by omega)
    · rw [k.high t (by omega) (by omega), h.rest _ (by omega) (by omega)]
  · rw [k.rest t (by omega), h.rest t (by omega) (by omega)]
theorem RotD.less {m i j : Nat} {d dk f : Array Cl} (hj : i < j) (hi : i ≤ m) (h : SwR (m - i) (m + j - i) i d dk) (k : RotD (m - i) m (m + j - i) dk f) : RotD (m - i) m (m + j) d f := by
  refine ⟨k.size.trans h.size, fun t h1 h2 => ?_, fun t h1 h2 => ?_, fun t h1 => ?_⟩
  · by_cases e : t < m - i + (j - i)
    · rw [k.low t (by omega) (by omega), h.rest _ (by omega) (by omega)]
    · rw [k.high t (by omega) (by omega), ix (show t - (m + j - i - m) = m - i + (t - (j - i) - (m - i)) by omega), h.left _ (by omega)]
      exact ix (by omega)
  · rw [k.rest t (by omega), ix (show t = m + j - i + (t - (m + j - i)) by omega), h.right _ (by omega)]
    exact ix (by omega)
  · rw [k.rest t (by omega), h.rest t (by omega) (by omega)]
theorem RotD.even {m i : Nat} {d f : Array Cl} (hi : i ≤ m) (h : SwR (m - i) m i d f) : RotD (m - i) m (m + i) d f := by
  refine ⟨h.size, fun t h1 h2 => ?_, fun t h1 h2 => ?_, fun t h1 => h.rest t (by omega) (by omega)⟩
  · rw [ix (show t = m - i + (t - (m - i)) by omega), h.left _ (by omega)]
    exact ix (by omega)
  · rw [ix (show t = m + (t - m) by omega), h.right _ (by omega)]
    exact ix (by omega)
theorem RotD.up {a k : Nat} {d dk : Array Cl} (h : RotD a (a + 1) (k + 1) d dk) (hk : a ≤ k) (hs : k + 1 < d.size) : RotD a (a + 1) (k + 2) d (swp dk k (k + 1)) := by
  have hz := h.size
  refine ⟨by rw [size_swp]; exact hz, fun t h1 h2 => ?_, fun t h1 h2 => ?_, fun t h1 => ?_⟩
  · by_cases e : t = k
    · subst e
      rw [swp_left _ _ _ (by omega) (by omega), h.rest _ (by omega)]
      exact ix (by omega)
    · rw [swp_other _ _ _ _ (by omega) (by omega), h.low t (by omega) (by omega)]
  · obtain rfl : t = k + 1 := by omega
    rw [swp_right _ _ _ (by omega), h.high k (by omega) (by omega)]
    exact ix (by omega)
  · rw [swp_other _ _ _ _ (by omega) (by omega), h.rest t (by omega)]
theorem RotD.down {m k : Nat} {d dk : Array Cl} (h : RotD (k + 1) m (m + 1) d dk) (hk : k + 1 ≤ m) (hs : m < d.size) : RotD k m (m + 1) d (swp dk (k + 1) k) := by
  have hz := h.size
  refine ⟨by rw [size_swp]; exact hz, fun t h1 h2 => ?_, fun t h1 h2 => ?_, fun t h1 => ?_⟩
  · obtain rfl : t = k := by omega
    rw [swp_right _ _ _ (by omega), h.low (t + 1) (by omega) (by omega)]
    exact ix (by omega)
  · by_cases e : t = k + 1
    · subst e
      rw [swp_left _ _ _ (by omega) (by omega), h.rest k (by omega)]
      exact ix (by omega)
    · rw [swp_other _ _ _ _ (by omega) (by omega), h.high t (by omega) (by omega)]
  · rw [swp_other _ _ _ _ (by omega) (by omega), h.rest t (by omega)]
theorem RotD.perm {a m b : Nat} {d d' : Array Cl} (h : RotD a m b d d') (h1 : a ≤ m) (h2 : m ≤ b) (hb : b ≤ d.size) : PermIn a b d d' := by
  refine ⟨h.size, h.rest, ?_⟩
  rw [extract_toList _ _ _ (by rw [h.size]; exact hb), extract_toList _ _ _ hb]
  have e1 : (List.range' a (b - a)).map (fun i => d'[i]!) = (List.range' m (b - m)).map (fun i => d[i]!) ++ (List.range' a (m - a)).map (fun i => d[i]!) := by
    apply List.ext_getElem
    · simp; omega
    · intro i g1 g2
      simp only [List.length_map, List.length_range'] at g1
      by_cases e : i < b - m
      · rw [List.getElem_append_left (by simpa using e)]
        simp only [List.getElem_map, List.getElem_range']
        rw [h.low _ (by omega) (by omega)]
        exact ix (by omega)
      · rw [List.getElem_append_right (by simp; omega)]
        simp only [List.getElem_map, List.getElem_range', List.length_map, List.length_range']
        rw [h.high _ (by omega) (by omega)]
        exact ix (by omega)
  have e2 : (List.range' a (b - a)).map (fun i => d[i]!) = (List.range' a (m - a)).map (fun i => d[i]!) ++ (List.range' m (b - m)).map (fun i => d[i]!) := by
    rw [← List.map_append]
    have e3 : List.range' a (b - a) = List.range' a (m - a) ++ List.range' m (b - m) := by
      have := List.range'_append (s := a) (m := m - a) (n := b - m) (step := 1)
      rw [show a + 1 * (m - a) = m by omega, show m - a + (b - m) = b - a by omega] at this
      exact this.symm
    rw [e3]
  rw [e1, e2]
  exact List.perm_append_comm

/-- all places of the left part are ahead of all of the right one -/
def Cross (a m b : Nat) (d : Array Cl) : Prop := ∀ x y, a ≤ x → x < m → m ≤ y → y < b → d[x]!.p < d[y]!.p
structure MPre (a m b : Nat) (d : Array Cl) : Prop where
  l : SortedIn tB a m d
  r : SortedIn tB m b d
  c : Cross a m b d
theorem le_of {d : Array Cl} {a b i j : Nat} (h : SortedIn tB a b d) (h1 : a ≤ i) (h2 : i ≤ j) (h3 : j < b) : tB d[j]! d[i]! = false := by
  rcases Nat.lt_or_eq_of_le h2 with h4 | rfl
  · exact h i j h1 h4 h3
  · exact swoT.irrefl _
/-- one on the left, merged -/
theorem merge_one_left {a i b : Nat} {d d' : Array Cl} (h : MPre a (a + 1) b d) (hr : RotD a (a + 1) i d d') (hi : a + 1 ≤ i) (hib : i ≤ b)
    (h1 : a + 1 < i → tB d[i - 1]! d[a]! = true) (h2 : i < b → tB d[i]! d[a]! = false) : SortedIn tB a b d' := by
  have hx : ∀ q, a + 1 ≤ q → q < i → tB d[a]! d[q]! = false := fun q g1 g2 =>
    swoT.ntrans _ d[i - 1]! _ (tB_asymm (h1 (by omega))) (le_of h.r g1 (by omega) (by omega))
  have hy : ∀ q, i ≤ q → q < b → tB d[q]! d[a]! = false := fun q g1 g2 =>
    swoT.ntrans _ d[i]! _ (le_of h.r (by omega) g1 g2) (h2 (by omega))
  intro x y g1 g2 g3
  have lo : ∀ t, a ≤ t → t < i - 1 → d'[t]! = d[t + 1]! := fun t q1 q2 => by rw [hr.low t q1 (by omega)]; exact ix (by omega)
  have mi : d'[i - 1]! = d[a]! := by rw [hr.high (i - 1) (by omega) (by omega)]; exact ix (by omega)
  have hh : ∀ t, i ≤ t → d'[t]! = d[t]! := fun t q => hr.rest t (by omega)
  by_cases e1 : y < i - 1
  · rw [lo x g1 (by omega), lo y (by omega) e1]
    exact h.r _ _ (by omega) (by omega) (by omega)
  · by_cases e2 : y = i - 1
    · rw [e2, mi, lo x g1 (by omega)]
      exact hx _ (by omega) (by omega)
    · rw [hh y (by omega)]
      by_cases e3 : x < i - 1
      · rw [lo x g1 e3]
        exact h.r _ _ (by omega) (by omega) g3
      · by_cases e4 : x = i - 1
        · rw [e4, mi]
          exact hy y (by omega) g3
        · rw [hh x (by omega)]
          exact h.r _ _ (by omega) g2 g3
/-- one on the right, merged -/
theorem merge_one_right {a i m : Nat} {d d' : Array Cl} (h : MPre a m (m + 1) d) (hr : RotD i m (m + 1) d d') (hi : a ≤ i) (hib : i ≤ m)
    (h1 : a < i → tB d[m]! d[i - 1]! = false) (h2 : i < m → tB d[m]! d[i]! = true) : SortedIn tB a (m + 1) d' := by
  have hx : ∀ q, a ≤ q → q < i → tB d[m]! d[q]! = false := fun q g1 g2 =>
    swoT.ntrans _ d[i - 1]! _ (h1 (by omega)) (le_of h.l g1 (by omega) (by omega))
  have hy : ∀ q, i ≤ q → q < m → tB d[q]! d[m]! = false := fun q g1 g2 =>
    swoT.ntrans _ d[i]! _ (le_of h.l hi g1 g2) (tB_asymm (h2 (by omega))) |> fun _ => by
      have t1 := tB_asymm (h2 (by omega))
      cases e : tB d[q]! d[m]!
      · rfl
      · have := swoT.trans _ _ _ e (h2 (by omega))
        rw [le_of h.l hi g1 g2] at this
        cases this
  intro x y g1 g2 g3
  have lo : ∀ t, t < i → d'[t]! = d[t]! := fun t q => hr.rest t (by omega)
  have mi : d'[i]! = d[m]! := by rw [hr.low i (by omega) (by omega)]; exact ix (by omega)
  have hh : ∀ t, i < t → t < m + 1 → d'[t]! = d[t - 1]! := fun t q1 q2 => by rw [hr.high t (by omega) (by omega)]; exact ix (by omega)
  by_cases e1 : y < i
  · rw [lo x (by omega), lo y e1]
    exact h.l _ _ g1 g2 (by omega)
  · by_cases e2 : y = i
    · rw [e2, mi, lo x (by omega)]
      exact hx x g1 (by omega)
    · rw [hh y (by omega) g3]
      by_cases e3 : x < i
      · rw [lo x e3]
        exact h.l _ _ g1 (by omega) (by omega)
      · by_cases e4 : x = i
        · rw [e4, mi]
          exact hy _ (by omega) (by omega)
        · rw [hh x (by omega) (by omega)]
          exact h.l _ _ (by omega) (by omega) (by omega)
end Go.Proofs.Ytmdghonefdmihae
