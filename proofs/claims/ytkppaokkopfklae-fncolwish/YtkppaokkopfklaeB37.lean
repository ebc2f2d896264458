/-
  PROVED HERE: small facts for columns that are made wide enough: slices of columns, noughts, the table and its grid in their boxes. Also: how wide columns are at least, as lists: wide enough for all cells, and what is said of them. Also: how wide columns would be, as lists: wide enough for all texts in one line, and no less than at least. Also: the program's cellOf is a cell at its place in a drawn table; nothing that was in memory is turned. Also: the program's textOf is the text of a cell at its place in a drawn table; nothing that was in memory is turned.
-/
import Derived.Test.YtkppaokkopfklaeB36
import Derived.Test.YtkppaokkopfklaeB24
import Derived.Test.YtkppaokkopfklaeB27
import Derived.Test.YtkppaokkopfklaeB5
import Derived.Test.YtkppaokkopfklaeB33
import Derived.Laws.BitsLemmas
import Derived.Deep.DeepCutAuto
import Derived.Deep.RegionWith
import Derived.Deep.QuietTactic
import Derived.BigQuiet
namespace Go.Proofs.Ytkppaokkopfklae
open Go.RowKit

theorem kind_small {a : Int} (h : -9223372036854775808 ≤ a ∧ a ≤ 9223372036854775807) : IntKind.i64.wrap a = a := by rw [IntKind.wrap_i64]; omega
theorem slice_facts {cn m C : Nat} (h : cn + (m + 1) ≤ C) (hC : C ≤ 88) : (cn : Int) ≤ (cn : Int) + ((m : Int) + 1) ∧ (cn : Int) + ((m : Int) + 1) ≤ (C : Int) ∧ (0 : Int) ≤ (cn : Int) + ((m : Int) + 1) ∧ ((cn : Int) + ((m : Int) + 1)).toNat = cn + (m + 1) ∧ cn + (m + 1) - cn = m + 1 ∧ ¬ C = cn ∧ wrap64 ((cn : Int) + ((m : Int) + 1)) = (cn : Int) + ((m : Int) + 1) ∧ IntKind.i64.wrap ((cn : Int) + ((m : Int) + 1)) = (cn : Int) + ((m : Int) + 1) := by
  have e : -9223372036854775808 ≤ (cn : Int) + ((m : Int) + 1) ∧ (cn : Int) + ((m : Int) + 1) ≤ 9223372036854775807 := by omega
  exact ⟨by omega, by omega, by omega, by omega, by omega, by omega, W_small e, kind_small e⟩
theorem slice_facts2 {cn m C : Nat} (h : cn + (m + 1) ≤ C) (hC : cn + (m + 1) ≤ 88) : (cn : Int) ≤ (cn : Int) + ((m : Int) + 1) ∧ (cn : Int) + ((m : Int) + 1) ≤ (C : Int) ∧ (0 : Int) ≤ (cn : Int) + ((m : Int) + 1) ∧ ((cn : Int) + ((m : Int) + 1)).toNat = cn + (m + 1) ∧ cn + (m + 1) - cn = m + 1 ∧ ¬ C = cn ∧ wrap64 ((cn : Int) + ((m : Int) + 1)) = (cn : Int) + ((m : Int) + 1) ∧ IntKind.i64.wrap ((cn : Int) + ((m : Int) + 1)) = (cn : Int) + ((m : Int) + 1) := by
  have e : -9223372036854775808 ≤ (cn : Int) + ((m : Int) + 1) ∧ (cn : Int) + ((m : Int) + 1) ≤ 9223372036854775807 := by omega
  exact ⟨by omega, by omega, by omega, by omega, by omega, by omega, W_small e, kind_small e⟩
theorem idx_facts {cn j C : Nat} (h : cn + j < C) (hC : C ≤ 88) : (0 : Int) ≤ (cn : Int) + (j : Int) ∧ (cn : Int) + (j : Int) < (C : Int) ∧ ((cn : Int) + (j : Int)).toNat = cn + j ∧ wrap64 ((cn : Int) + (j : Int)) = (cn : Int) + (j : Int) ∧ IntKind.i64.wrap ((cn : Int) + (j : Int)) = (cn : Int) + (j : Int) := by
  have e : -9223372036854775808 ≤ (cn : Int) + (j : Int) ∧ (cn : Int) + (j : Int) ≤ 9223372036854775807 := by omega
  exact ⟨by omega, by omega, by omega, W_small e, kind_small e⟩
/-- noughts -/
def zeroL (n : Nat) : List Int := List.replicate n 0
theorem zero_up (n : Nat) : UpB (zeroL n) 0 := by
  intro i hi
  simp [zeroL] at hi
  simp [zeroL, List.getD, hi]
/-- the table in its box, the grid in its own -/
def Ws (w : World) (z gb : Nat) (ac ar : Option Addr) (cc cr : Nat) (t : T) (ag : Option Addr) (cg : Nat) (W : World) : Prop :=
  Below w.heap.size w W ∧ TA W z ac ar cc cr t ∧ W.heap[w.heap.size]? = some (.cells #[.slice ac t.cols.length cc, .int .i64 t.head, .int .i64 t.foot, .slice ar t.rows.length cr, .int .i64 t.gap] 26) ∧ GsAt W w.heap.size (.slice ag (gOf t).cells.length cg) (gOf t).cells ∧ W.heap[gb]? = some (.cells #[.int .i64 (gOf t).rows, .int .i64 (gOf t).cols, .slice ag (gOf t).cells.length cg] 35)
theorem Ws.kept {w W W' : World} {z gb : Nat} {ac ar ag : Option Addr} {cc cr cg : Nat} {t : T} (h : Ws w z gb ac ar cc cr t ag cg W) (hb : Below W.heap.size W W') : Ws w z gb ac ar cc cr t ag cg W' :=
  ⟨h.1.trans (hb.mono h.1.size), h.2.1.kept hb, (hb.block _ (Array.getElem?_eq_some_iff.1 h.2.2.1).1).trans h.2.2.1, h.2.2.2.1.kept hb, (hb.block gb (Array.getElem?_eq_some_iff.1 h.2.2.2.2).1).trans h.2.2.2.2⟩
theorem Ws.at {w W : World} {z gb : Nat} {ac ar ag : Option Addr} {cc cr cg : Nat} {t : T} (h : Ws w z gb ac ar cc cr t ag cg W) : W.cell? ⟨w.heap.size, 3, none⟩ = some (.slice ar t.rows.length cr) ∧ W.cell? ⟨w.heap.size, 4, none⟩ = some (.int .i64 t.gap) ∧ W.cell? ⟨gb, 1, none⟩ = some (.int .i64 (gOf t).cols) ∧ W.cell? ⟨gb, 2, none⟩ = some (.slice ag (gOf t).cells.length cg) :=
  ⟨cellB h.2.2.1, cellB h.2.2.1, cellB h.2.2.2.2, cellB h.2.2.2.2⟩
theorem sub_facts {L : List Int} {B : Int} (hub : UpB L B) (hB : B ≤ 50000) {cn m C : Nat} (hll : L.length = C) (h3 : cn + m ≤ C) (hm : m ≤ 4) : (subL L cn m).all wtB = true ∧ (0 ≤ (subL L cn m).sum ∧ (subL L cn m).sum ≤ 200000) ∧ (subL L cn m).length = m := by
  have hc : cn + m ≤ L.length := by omega
  have hb : ∀ x ∈ subL L cn m, 0 ≤ x ∧ x ≤ 50000 := fun x hx => by have := hub.mem (subL_mem hx); omega
  have hs := sum_upB hb
  rw [subL_len hc] at hs
  refine ⟨?_, by omega, subL_len hc⟩
  rw [List.all_eq_true]
  intro x hx
  have := hb x hx
  simp only [wtB, decide_eq_true_eq]
  omega
theorem gap_facts {gap : Int} (hg : 0 ≤ gap ∧ gap ≤ 3) {m : Nat} (hm : m < 4) : 0 ≤ gap * (m : Int) ∧ gap * (m : Int) ≤ 9 := ⟨Int.mul_nonneg hg.1 (by omega), Int.le_trans (Int.mul_le_mul hg.2 (show (m : Int) ≤ 3 by omega) (by omega) (by omega)) (by omega)⟩
end Go.Proofs.Ytkppaokkopfklae
namespace Go.Proofs.Ytkppaokkopfklae
open Go.RowKit

/-- the first k columns have what is said of them, if that is more -/
def fixTo (ps : List (Int × Int)) (l : List Int) : Nat → List Int
  | 0 => l
  | k + 1 => if (sd ps k).1 = 1 then (fixTo ps l k).set k (max ((fixTo ps l k).getD k 0) (sd ps k).2) else fixTo ps l k
theorem fixTo_len (ps : List (Int × Int)) (l : List Int) : ∀ k, (fixTo ps l k).length = l.length
  | 0 => rfl
  | k + 1 => by rw [fixTo]; split; rw [List.length_set]; exact fixTo_len ps l k; exact fixTo_len ps l k
theorem fixTo_out (ps : List (Int × Int)) (l : List Int) {i : Nat} : ∀ k, k ≤ i → (fixTo ps l k).getD i 0 = l.getD i 0
  | 0, _ => rfl
  | k + 1, h => by
    rw [fixTo]
    split
    · rw [← fixTo_out ps l (i := i) k (by omega)]
      simp only [List.getD, List.getElem?_set_ne (show k ≠ i by omega)]
    · exact fixTo_out ps l k (by omega)
/-- what a column has at last -/
def fixV (ps : List (Int × Int)) (k : Nat) (x : Int) : Int := if (sd ps k).1 = 1 then max x (sd ps k).2 else x
theorem fixTo_in (ps : List (Int × Int)) (l : List Int) {i : Nat} (hi : i < l.length) : ∀ k, i < k → (fixTo ps l k).getD i 0 = fixV ps i (l.getD i 0)
  | k + 1, h => by
    rw [fixTo]
    by_cases e : i = k
    · subst e
      rw [fixTo_out ps l i (Nat.le_refl _)]
      have hl : i < (fixTo ps l i).length := by rw [fixTo_len]; exact hi
      unfold fixV
      split
      · simp [List.getD, hl]
      · exact fixTo_out ps l i (Nat.le_refl _)
    · rw [← fixTo_in ps l hi k (by omega)]
      split
      · simp only [List.getD, List.getElem?_set_ne (show k ≠ i by omega)]
      · rfl
theorem fixV_ge (ps : List (Int × Int)) (k : Nat) (x : Int) : x ≤ fixV ps k x := by unfold fixV; split <;> omega
/-- what a cell's text needs -/
def leastP (t : T) (x : GC) : Int := (leastOf (wordsW (textOf t x)) : Nat)
def colN (t : T) : Nat := (gOf t).cols.toNat
def needL (t : T) (p : GC → Int) : List Int := needTo p t.gap (gOf t).cells (zeroL (colN t)) 4
def leastL (t : T) : List Int := fixTo t.cols (needL t (leastP t)) (colN t)
theorem needL_len (t : T) (p : GC → Int) : (needL t p).length = colN t := by unfold needL; rw [needTo_len]; simp [zeroL]
theorem leastL_len (t : T) : (leastL t).length = colN t := by unfold leastL; rw [fixTo_len, needL_len]
theorem colN_of {t : T} {C : Nat} (h : (gOf t).cols = C) : colN t = C := by unfold colN; rw [h]; exact Int.toNat_natCast C
theorem needL_up {t : T} (hD : Drawn t) {p : GC → Int} (hp : ∀ x, p x ≤ 30) : UpB (needL t p) 4800 := by
  obtain ⟨h40, C, hgc, hC, hcel⟩ := cel_of hD
  unfold needL
  rw [colN_of hgc]
  exact need_up hcel h40 (by simp [zeroL]) hp (zero_up _) 4 (by omega)
theorem sd_small {t : T} {k : Nat} (hk : k < colN t) : (sd t.cols k).1 = 1 → 0 ≤ (sd t.cols k).2 ∧ (sd t.cols k).2 ≤ 60 := by
  intro h1
  cases h : tblB t with
  | false => unfold colN at hk; rw [gOf_no h] at hk; exact absurd hk (Nat.not_lt_zero _)
  | true =>
    simp only [tblB, colsB, Bool.and_eq_true, List.all_eq_true] at h
    by_cases hl : k < t.cols.length
    · rw [sd_yes hl] at h1 ⊢
      have := h.2.2.2.1.2 (t.cols.getD k (0, 0)) (by rw [show t.cols.getD k (0, 0) = t.cols[k] by simp [List.getD, hl]]; exact List.getElem_mem hl)
      simp only [colB, decide_eq_true_eq] at this
      omega
    · rw [sd_no (inB_false (by omega))] at h1
      simp at h1
theorem leastL_get {t : T} {k : Nat} (hk : k < colN t) : (leastL t).getD k 0 = fixV t.cols k ((needL t (leastP t)).getD k 0) := by
  unfold leastL
  exact fixTo_in _ _ (by rw [needL_len]; exact hk) _ hk
theorem leastP_le (t : T) (x : GC) : 0 ≤ leastP t x ∧ leastP t x ≤ 30 := by
  unfold leastP
  have := leastOf_le (wordsW (textOf t x))
  omega
theorem leastL_up {t : T} (hD : Drawn t) : UpB (leastL t) 5000 := by
  intro i hi
  rw [leastL_len] at hi
  rw [leastL_get hi]
  have h1 := needL_up hD (fun x => (leastP_le t x).2) i (by rw [needL_len]; exact hi)
  have h2 := sd_small hi
  unfold fixV
  split
  · have := h2 (by assumption); omega
  · omega
theorem leastL_ge (t : T) : LeL (needL t (leastP t)) (leastL t) := by
  refine ⟨by rw [needL_len, leastL_len], fun i hi => ?_⟩
  rw [needL_len] at hi
  rw [leastL_get hi]
  exact fixV_ge _ _ _
/-- no cell is cramped -/
theorem least_has {t : T} (hD : Drawn t) {k : Nat} (hk : k < (gOf t).cells.length) : leastP t ((gOf t).cells.getD k dG) ≤ hasV (leastL t) t.gap ((gOf t).cells.getD k dG) := by
  obtain ⟨h40, C, hgc, hC, hcel⟩ := cel_of hD
  have h1 := (need_ge hcel h40 (l := zeroL C) (by simp [zeroL]) (fun x => (leastP_le t x).2) (zero_up _) 4 (Nat.le_refl _)).2 k hk (by obtain ⟨rn, jn, cn, mn, e1, e2, e3, e4, h1, h2, h3, h4, h5⟩ := (hcel k hk).ex; omega)
  have e : needTo (leastP t) t.gap (gOf t).cells (zeroL C) 4 = needL t (leastP t) := by unfold needL; rw [colN_of hgc]
  rw [e] at h1
  exact Int.le_trans h1 (hasV_le (hcel k hk) (leastL_ge t) (by rw [needL_len, colN_of hgc]) t.gap)
end Go.Proofs.Ytkppaokkopfklae
namespace Go.Proofs.Ytkppaokkopfklae
open Go.RowKit

/-- the first k numbers: the greater one of two lists -/
def maxTo (a b : List Int) : Nat → List Int
  | 0 => a
  | k + 1 => (maxTo a b k).set k (max (a.getD k 0) (b.getD k 0))
theorem maxTo_len (a b : List Int) : ∀ k, (maxTo a b k).length = a.length
  | 0 => rfl
  | k + 1 => by rw [maxTo, List.length_set]; exact maxTo_len a b k
theorem maxTo_out (a b : List Int) {i : Nat} : ∀ k, k ≤ i → (maxTo a b k).getD i 0 = a.getD i 0
  | 0, _ => rfl
  | k + 1, h => by
    rw [maxTo, ← maxTo_out a b (i := i) k (by omega)]
    simp only [List.getD, List.getElem?_set_ne (show k ≠ i by omega)]
theorem maxTo_in (a b : List Int) {i : Nat} (hi : i < a.length) : ∀ k, i < k → (maxTo a b k).getD i 0 = max (a.getD i 0) (b.getD i 0)
  | k + 1, h => by
    rw [maxTo]
    by_cases e : i = k
    · subst e
      have hl : i < (maxTo a b i).length := by rw [maxTo_len]; exact hi
      simp only [List.getD, List.getElem?_set_self hl, Option.getD_some]
    · rw [← maxTo_in a b hi k (by omega)]
      simp only [List.getD, List.getElem?_set_ne (show k ≠ i by omega)]
/-- how wide a cell's text would be -/
def wishP (t : T) (x : GC) : Int := (wishOf (textOf t x) : Nat)
theorem wishP_le (t : T) (x : GC) : 0 ≤ wishP t x ∧ wishP t x ≤ 30 := by
  unfold wishP
  have := wishOf_le (textOf t x)
  omega
def wishL (t : T) : List Int := maxTo (needL t (wishP t)) (leastL t) (colN t)
theorem wishL_len (t : T) : (wishL t).length = colN t := by unfold wishL; rw [maxTo_len, needL_len]
theorem wishL_get {t : T} {k : Nat} (hk : k < colN t) : (wishL t).getD k 0 = max ((needL t (wishP t)).getD k 0) ((leastL t).getD k 0) := by
  unfold wishL
  exact maxTo_in _ _ (by rw [needL_len]; exact hk) _ hk
theorem wishL_up {t : T} (hD : Drawn t) : UpB (wishL t) 5000 := by
  intro i hi
  rw [wishL_len] at hi
  rw [wishL_get hi]
  have h1 := needL_up hD (fun x => (wishP_le t x).2) i (by rw [needL_len]; exact hi)
  have h2 := leastL_up hD i (by rw [leastL_len]; exact hi)
  omega
theorem wish_least (t : T) : LeL (leastL t) (wishL t) := by
  refine ⟨by rw [wishL_len, leastL_len], fun i hi => ?_⟩
  rw [leastL_len] at hi
  rw [wishL_get hi]
  omega
theorem wish_ge (t : T) : LeL (needL t (wishP t)) (wishL t) := by
  refine ⟨by rw [wishL_len, needL_len], fun i hi => ?_⟩
  rw [needL_len] at hi
  rw [wishL_get hi]
  omega
/-- each cell's words stand in one line -/
theorem wish_has {t : T} (hD : Drawn t) {k : Nat} (hk : k < (gOf t).cells.length) : wishP t ((gOf t).cells.getD k dG) ≤ hasV (wishL t) t.gap ((gOf t).cells.getD k dG) := by
  obtain ⟨h40, C, hgc, hC, hcel⟩ := cel_of hD
  have h1 := (need_ge hcel h40 (l := zeroL C) (by simp [zeroL]) (fun x => (wishP_le t x).2) (zero_up _) 4 (Nat.le_refl _)).2 k hk (by obtain ⟨rn, jn, cn, mn, e1, e2, e3, e4, h1, h2, h3, h4, h5⟩ := (hcel k hk).ex; omega)
  have e : needTo (wishP t) t.gap (gOf t).cells (zeroL C) 4 = needL t (wishP t) := by unfold needL; rw [colN_of hgc]
  rw [e] at h1
  exact Int.le_trans h1 (hasV_le (hcel k hk) (wish_ge t) (by rw [needL_len, colN_of hgc]) t.gap)
end Go.Proofs.Ytkppaokkopfklae
namespace Go.Proofs.Ytkppaokkopfklae
open Go.RowKit Go.BigFrame

/-- a cell of a grid, as it stands in its table -/
def cellAt (t : T) (x : GC) : C := (t.rows.getD x.row.toNat dR).cells.getD x.ins.toNat dC
set_option maxRecDepth 100000 in
set_option maxHeartbeats 2000000 in
theorem implcellOf (ac ar : Option Addr) (cc cr : Nat) (t : T) (x : GC) {C : Nat} (hx : Cel t C x) (w : World) {z : Nat} (hr : RowsAt w z (.slice ar t.rows.length cr) t.rows) :
    Calls Try.prog 68 #[.agg #[.slice ac t.cols.length cc, .int .i64 t.head, .int .i64 t.foot, .slice ar t.rows.length cr, .int .i64 t.gap], .agg #[.int .i64 x.row, .int .i64 x.col, .int .i64 x.rows, .int .i64 x.cols, .int .i64 x.ins]] w fun e w' => e = .returned (.agg #[.string (cellAt t x).s, .int .i64 (cellAt t x).c, .int .i64 (cellAt t x).r, .int .i64 (cellAt t x).a1, .int .i64 (cellAt t x).b1, .int .i64 (cellAt t x).a2, .int .i64 (cellAt t x).b2, .int .i64 (cellAt t x).a3, .int .i64 (cellAt t x).b3, .int .i64 (cellAt t x).a4, .int .i64 (cellAt t x).b4]) ∧ (cellAt t x).s.size ≤ maxLen ∧ Below w.heap.size w w' := by
  obtain ⟨rn, jn, cn, mn, e1, e2, e3, e4, h1, h2, h3, h4, h5⟩ := hx.ex
  have HTx : Hid (cellAt t x = (t.rows.getD rn dR).cells.getD jn dC) := by rw [Hid, cellAt, e1, e2, Int.toNat_natCast, Int.toNat_natCast]
  have hmx : Try.prog.follows .mixedOrders = true := by kernel_rfl
  have K1 := k_alloc (Below.refl w.heap.size w) (.cells #[.slice ac t.cols.length cc, .int .i64 t.head, .int .i64 t.foot, .slice ar t.rows.length cr, .int .i64 t.gap] 26)
  have X1 := newestB w (.cells #[.slice ac t.cols.length cc, .int .i64 t.head, .int .i64 t.foot, .slice ar t.rows.length cr, .int .i64 t.gap] 26)
  have hs1 : (w.alloc (.cells #[.slice ac t.cols.length cc, .int .i64 t.head, .int .i64 t.foot, .slice ar t.rows.length cr, .int .i64 t.gap] 26)).heap.size = w.heap.size + 1 := by simp
  rw [e1, e2]
  clear e1 e2 e3 e4
  go_enter Try.func68, Try.ntmps68
  go_upto_region 1 with fail
  have K2 := k_alloc K1 (.cells #[.int .i64 (rn : Int), .int .i64 x.col, .int .i64 x.rows, .int .i64 x.cols, .int .i64 (jn : Int)] 39)
  have X2 := newestB (w.alloc (.cells #[.slice ac t.cols.length cc, .int .i64 t.head, .int .i64 t.foot, .slice ar t.rows.length cr, .int .i64 t.gap] 26)) (.cells #[.int .i64 (rn : Int), .int .i64 x.col, .int .i64 x.rows, .int .i64 x.cols, .int .i64 (jn : Int)] 39)
  have X1' := (Below.heap_alloc (w.alloc (.cells #[.slice ac t.cols.length cc, .int .i64 t.head, .int .i64 t.foot, .slice ar t.rows.length cr, .int .i64 t.gap] 26)) (.cells #[.int .i64 (rn : Int), .int .i64 x.col, .int .i64 x.rows, .int .i64 x.cols, .int .i64 (jn : Int)] 39) w.heap.size (by omega)).trans X1
  rw [hs1] at X2
  have hs2 : ((w.alloc (.cells #[.slice ac t.cols.length cc, .int .i64 t.head, .int .i64 t.foot, .slice ar t.rows.length cr, .int .i64 t.gap] 26)).alloc (.cells #[.int .i64 (rn : Int), .int .i64 x.col, .int .i64 x.rows, .int .i64 x.cols, .int .i64 (jn : Int)] 39)).heap.size = w.heap.size + 2 := by simp
  generalize (w.alloc (.cells #[.slice ac t.cols.length cc, .int .i64 t.head, .int .i64 t.foot, .slice ar t.rows.length cr, .int .i64 t.gap] 26)).alloc (.cells #[.int .i64 (rn : Int), .int .i64 x.col, .int .i64 x.rows, .int .i64 x.cols, .int .i64 (jn : Int)] 39) = W2 at K2 X2 X1' hs2 ⊢
  have K3 := k_alloc K2 (.cells #[.string ⟨#[]⟩, .int .i64 0, .int .i64 0, .int .i64 0, .int .i64 0, .int .i64 0, .int .i64 0, .int .i64 0, .int .i64 0, .int .i64 0, .int .i64 0] 64)
  have X3 := newestB W2 (.cells #[.string ⟨#[]⟩, .int .i64 0, .int .i64 0, .int .i64 0, .int .i64 0, .int .i64 0, .int .i64 0, .int .i64 0, .int .i64 0, .int .i64 0, .int .i64 0] 64)
  have X1'' := (Below.heap_alloc W2 (.cells #[.string ⟨#[]⟩, .int .i64 0, .int .i64 0, .int .i64 0, .int .i64 0, .int .i64 0, .int .i64 0, .int .i64 0, .int .i64 0, .int .i64 0, .int .i64 0] 64) w.heap.size (by omega)).trans X1'
  have X2' := (Below.heap_alloc W2 (.cells #[.string ⟨#[]⟩, .int .i64 0, .int .i64 0, .int .i64 0, .int .i64 0, .int .i64 0, .int .i64 0, .int .i64 0, .int .i64 0, .int .i64 0, .int .i64 0] 64) (w.heap.size + 1) (by omega)).trans X2
  rw [show W2.heap.size = w.heap.size + 1 + 1 by omega] at X3
  generalize W2.alloc (.cells #[.string ⟨#[]⟩, .int .i64 0, .int .i64 0, .int .i64 0, .int .i64 0, .int .i64 0, .int .i64 0, .int .i64 0, .int .i64 0, .int .i64 0, .int .i64 0] 64) = W at K3 X3 X1'' X2' ⊢
  clear K1 X1 hs1 K2 X2 X1' hs2
  obtain ⟨rb, roff, rcap, re, rc1, rc2, rbl, u, hu0, _, hu⟩ := At.get (hr.kept K3) h1
  simp only [Value.slice.injEq, true_and] at re
  obtain ⟨rfl, rfl⟩ := re
  obtain ⟨qb, qoff, qcap, qe, qc1, qc2, qbl, hv, hsl⟩ := At.get hu h2
  subst qe
  obtain ⟨v0, v1, v2, v3, v4, v5, v6, v7, v8, v9, v10⟩ := hv
  have l1 : w.heap.size < W.heap.size := (Array.getElem?_eq_some_iff.1 X1'').1
  have l2 : w.heap.size + 1 < W.heap.size := (Array.getElem?_eq_some_iff.1 X2').1
  have hne := bw_some W
  have m0 := bw_cell (a := ⟨w.heap.size, 3, none⟩) l1 (cellB (p := 3) X1'')
  have m1 := bw_cell (a := ⟨w.heap.size + 1, 0, none⟩) l2 (cellB (p := 0) X2')
  have m2 := bw_cell (a := ⟨w.heap.size + 1, 4, none⟩) l2 (cellB (p := 4) X2')
  have m3 := bw_cell rbl hu0
  have n0 := bw_cell qbl v0
  have n1 := bw_cell qbl v1
  have n2 := bw_cell qbl v2
  have n3 := bw_cell qbl v3
  have n4 := bw_cell qbl v4
  have n5 := bw_cell qbl v5
  have n6 := bw_cell qbl v6
  have n7 := bw_cell qbl v7
  have n8 := bw_cell qbl v8
  have n9 := bw_cell qbl v9
  have n10 := bw_cell qbl v10
  have HSZ : Hid ((cellAt t x).s.size ≤ maxLen) := by rw [Hid, HTx.out]; exact hsl
  have HK := Hid.intro K3
  have HX3 := Hid.intro X3
  unfold maxLen at rc2 qc2
  generalize (t.rows.getD rn dR).cells.getD jn dC = y at *
  generalize (t.rows.getD rn dR).cells.length = rl at h2 m3 qc1
  clear hu hu0 hr h3 h4 h5 hx K3 X3 X1'' X2' v0 v1 v2 v3 v4 v5 v6 v7 v8 v9 v10 hsl
  refine wp_region_last 11 hmx (by rfl) (by rfl) (by kernel_rfl) (by kernel_rfl) ?_
  simp only [List.take_succ_cons, List.take_zero]
  repeat (go_big_quiet_step (fail))
  refine wpQuiet_nil ?_
  intro W5 hw'
  obtain ⟨⟨Wx, hW5⟩, hw''⟩ := hw'
  subst hw''
  have l3 : w.heap.size + 1 + 1 < W.heap.size := (Array.getElem?_eq_some_iff.1 HX3.out).1
  have X5 := (hW5.block _ l3).trans HX3.out
  obtain ⟨⟨c0, c1, c2, c3, c4, c5, c6, c7, c8, c9, c10⟩, f0, f1, f2, f3, f4, f5, f6, f7, f8, f9, f10⟩ := cells11 X5
  have HK5 := Hid.intro (k_trans HK.out hW5)
  clear m0 m1 m2 m3 n0 n1 n2 n3 n4 n5 n6 n7 n8 n9 n10 hne hW5 X5
  rw [if_pos (by rfl)]
  go_simp
  go_wp2
  exact bodyPost_ret (v := .agg #[.string y.s, .int .i64 y.c, .int .i64 y.r, .int .i64 y.a1, .int .i64 y.b1, .int .i64 y.a2, .int .i64 y.b2, .int .i64 y.a3, .int .i64 y.b3, .int .i64 y.a4, .int .i64 y.b4]) (by simp [results, Try.results68, go_sem, c0, c1, c2, c3, c4, c5, c6, c7, c8, c9, c10]) rfl ⟨by rw [HTx.out], HSZ.out, HK5.out.trans ((st11_bk W5 (w.heap.size + 1 + 1) (.string y.s) (.int .i64 y.c) (.int .i64 y.r) (.int .i64 y.a1) (.int .i64 y.b1) (.int .i64 y.a2) (.int .i64 y.b2) (.int .i64 y.a3) (.int .i64 y.b3) (.int .i64 y.a4) (.int .i64 y.b4)).below HK5.out.size (by omega))⟩
end Go.Proofs.Ytkppaokkopfklae
namespace Go.Proofs.Ytkppaokkopfklae
open Go.RowKit

theorem text_size {t : T} {x : GC} {C : Nat} (hx : Cel t C x) {w : World} {z : Nat} {v : Value} (hr : RowsAt w z v t.rows) : (textOf t x).size ≤ maxLen := by
  obtain ⟨rn, jn, cn, mn, e1, e2, e3, e4, h1, h2, h3, h4, h5⟩ := hx.ex
  rw [textOf, e1, e2, Int.toNat_natCast, Int.toNat_natCast]
  obtain ⟨rb, roff, rcap, re, rc1, rc2, rbl, u, hu0, _, hu⟩ := At.get hr h1
  obtain ⟨qb, qoff, qcap, qe, qc1, qc2, qbl, hv, hsl⟩ := At.get hu h2
  exact hsl
theorem field_first (s : ByteArray) (x1 x2 x3 x4 x5 x6 x7 x8 x9 x10 : Value) (W : World) : (Instr.field 64 (.agg #[.string s, x1, x2, x3, x4, x5, x6, x7, x8, x9, x10]) 0).run Try.prog W = .ok (.string s) W := by kernel_rfl
set_option maxRecDepth 100000 in
set_option maxHeartbeats 2000000 in
theorem impltextOf (ac ar : Option Addr) (cc cr : Nat) (t : T) (x : GC) {C : Nat} (hx : Cel t C x) (w : World) {z : Nat} (hr : RowsAt w z (.slice ar t.rows.length cr) t.rows) :
    Calls Try.prog 45 #[.agg #[.slice ac t.cols.length cc, .int .i64 t.head, .int .i64 t.foot, .slice ar t.rows.length cr, .int .i64 t.gap], .agg #[.int .i64 x.row, .int .i64 x.col, .int .i64 x.rows, .int .i64 x.cols, .int .i64 x.ins]] w fun e w' => e = .returned (.string (textOf t x)) ∧ (textOf t x).size ≤ maxLen ∧ Below w.heap.size w w' := by
  have HC := Hid.intro (implcellOf ac ar cc cr t x hx)
  have hfl := field_first
  have K2 := k_alloc (k_alloc (Below.refl w.heap.size w) (.cells #[.slice ac t.cols.length cc, .int .i64 t.head, .int .i64 t.foot, .slice ar t.rows.length cr, .int .i64 t.gap] 26)) (.cells #[.int .i64 x.row, .int .i64 x.col, .int .i64 x.rows, .int .i64 x.cols, .int .i64 x.ins] 39)
  have HR := Hid.intro (hr.kept K2)
  have HK := Hid.intro K2
  clear hr hx K2
  go_enter Try.func45, Try.ntmps45
  go_wp2_with fail
  refine (HC.out _ HR.out).mono ?_
  rintro e w1 ⟨rfl, hsz, hb1⟩
  have HK1 := Hid.intro (k_trans HK.out hb1)
  clear hb1 HK HR HC
  go_wp2
  go_ret
  exact ⟨rfl, hsz, HK1.out⟩
end Go.Proofs.Ytkppaokkopfklae
