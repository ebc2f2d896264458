/-
  PROVED HERE: what the model's GrdOf answers at a drawn table: its cells at their places, or nothing where it is not ok; nothing that was in memory is turned. Also: how many cells rows have together. Also: where each cell of a drawn table's grid stands: in its row, behind the one ahead of it, at the first column at which it is free; the grid is ok; it has as many cells as the table. Also: the laws' own pwGrid says true of two grids in memory with the same cells; nothing that was in memory is turned. Also: what stays all along a law over a table's grid: the table in its box, the grid in its own, both in memory. Also: a code that lies in memory stays where it is; a table abides five stores ahead of it: for the texts that draw a table. Also: DrawGrdOf draws a table; nothing that was in memory is turned. Also: what the program's BrdOk answers at every border.
-/
import Derived.Test.YtgcobajekffmoabB16
import Derived.WalkLawsBesides
import Derived.WalkSpells
import Derived.Deep.RegionWith
import Derived.Deep.QuietTactic
import Derived.BigQuiet
namespace Go.Proofs.Ytgcobajekffmoab
open Go.RowKit

/-- the grid of a drawn table -/
def gOf (t : T) : G := if tblB t = true then ⟨t.rows.length, colsOf (max 1 (t.cols.length : Int)) (gridOf t), gridOf t⟩ else ⟨0, 0, []⟩
theorem low_of {t : T} (h : tblB t = true) (hD : Drawn t) : Low t := by
  have hb := tblB_bounds h
  have h2 := h
  simp only [tblB, partsB, inB, Bool.and_eq_true, decide_eq_true_eq, List.all_eq_true, rowB, cB, cellOkB] at h2
  refine ⟨hb.1.2, fun r hr x hx => ?_, hD.few, ⟨hb.2.1.1, hb.2.1.2⟩, ⟨hb.2.2.1, by omega⟩⟩
  have h3 := (h2.2.2.2.2 r hr).2 x hx
  have h4 := hD.cells r hr x hx
  exact ⟨by omega, by have := h4.2; omega, by have := h4.2; omega⟩

set_option maxRecDepth 100000 in
set_option maxHeartbeats 1000000 in
theorem specGrdOf (ac ar : Option Addr) (cc cr : Nat) (t : T) (hD : Drawn t) (w : World) {z : Nat} (hc : ColsAt w z (.slice ac t.cols.length cc) t.cols) (hr : RowsAt w z (.slice ar t.rows.length cr) t.rows) :
    Calls Try.prog 16 #[.agg #[.slice ac t.cols.length cc, .int .i64 t.head, .int .i64 t.foot, .slice ar t.rows.length cr, .int .i64 t.gap]] w fun e w' => ∃ vg, e = .returned (.agg #[.int .i64 (gOf t).rows, .int .i64 (gOf t).cols, vg]) ∧ OwnG w' w.heap.size vg (gOf t).cells ∧ Below w.heap.size w w' := by
  obtain ⟨W0, hW0⟩ : ∃ W0, (w.alloc (.cells #[.slice ac t.cols.length cc, .int .i64 t.head, .int .i64 t.foot, .slice ar t.rows.length cr, .int .i64 t.gap] 26)).alloc (.cells #[.int .i64 0, .int .i64 0, .slice none 0 0] 39) = W0 := ⟨_, rfl⟩
  have K0 : Below w.heap.size w W0 := by rw [← hW0]; exact k_alloc (k_alloc (Below.refl _ _) _) _
  have hz0 : W0.heap.size = w.heap.size + 2 := by rw [← hW0]; simp
  have T0 : W0.heap[w.heap.size]? = some (.cells #[.slice ac t.cols.length cc, .int .i64 t.head, .int .i64 t.foot, .slice ar t.rows.length cr, .int .i64 t.gap] 26) := by rw [← hW0]; exact (Below.heap_alloc _ _ _ (by simp)).trans (newestB _ _)
  have X0 : W0.heap[w.heap.size + 1]? = some (.cells #[.int .i64 0, .int .i64 0, .slice none 0 0] 39) := by
    have := newestB (w.alloc (.cells #[.slice ac t.cols.length cc, .int .i64 t.head, .int .i64 t.foot, .slice ar t.rows.length cr, .int .i64 t.gap] 26)) (.cells #[.int .i64 0, .int .i64 0, .slice none 0 0] 39)
    rw [hW0] at this
    simpa using this
  have KO := Hid.intro (specTblOk ac ar cc cr t W0 (hc.kept K0) (hr.kept K0))
  have HR := Hid.intro hr
  obtain ⟨⟨t0, t1, t2, t3, t4⟩, _⟩ := fiveT T0
  clear hc hr
  cases htk : tblB t with
  | false =>
    rw [htk] at KO
    have hg : gOf t = ⟨0, 0, []⟩ := by unfold gOf; rw [if_neg (by rw [htk]; simp)]
    have HG := Hid.intro hg
    clear htk hg hD
    go_enter Try.func16, Try.ntmps16
    go_wp2_with fail
    refine KO.out.mono ?_
    rintro e w1 ⟨rfl, hb1⟩
    have X1 := blk_kept X0 hb1
    have K1 := k_trans K0 hb1
    obtain ⟨⟨x0, x1, x2⟩, y0, y1, y2⟩ := threeZ X1
    have HB := Hid.intro (((K1.setCell (p := ⟨w.heap.size + 1, 0, none⟩) (by show _ ≤ w.heap.size + 1; omega) (.int .i64 0)).setCell (p := ⟨w.heap.size + 1, 1, none⟩) (by show _ ≤ w.heap.size + 1; omega) (.int .i64 0)).setCell (p := ⟨w.heap.size + 1, 2, none⟩) (by show _ ≤ w.heap.size + 1; omega) (.slice none 0 0))
    clear hb1 K1 X1 KO hW0 t0 t1 t2 t3 t4
    go_wp2
    exact bodyPost_ret (v := .agg #[.int .i64 0, .int .i64 0, .slice none 0 0]) (by simp [results, Try.results16, go_sem, x0, x1, x2]) rfl ⟨.slice none 0 0, by rw [HG.out], by rw [HG.out]; exact ⟨rfl, .inl ⟨rfl, rfl⟩⟩, HB.out⟩
  | true =>
    rw [htk] at KO
    have hg : gOf t = ⟨t.rows.length, colsOf (max 1 (t.cols.length : Int)) (gridOf t), gridOf t⟩ := by unfold gOf; rw [if_pos htk]
    have HG := Hid.intro hg
    have HLow := Hid.intro (low_of htk hD)
    clear htk hg hD
    go_enter Try.func16, Try.ntmps16
    go_wp2_with fail
    refine KO.out.mono ?_
    rintro e w1 ⟨rfl, hb1⟩
    have X1 := blk_kept X0 hb1
    have T1 := blk_kept T0 hb1
    have K1 := k_trans K0 hb1
    obtain ⟨⟨s0, s1, s2, s3, s4⟩, _⟩ := fiveT T1
    clear KO hW0 t0 t1 t2 t3 t4
    go_wp2_with fail
    refine (l3Of_any ac ar cc cr t HLow.out w1 (HR.out.kept K1)).mono ?_
    rintro e w2 ⟨vg, rfl, hO2, hb2⟩
    have X2 := blk_kept X1 hb2
    have K2 := k_trans K1 hb2
    obtain ⟨va, vq, rfl, _⟩ := row_form hO2
    obtain ⟨⟨x0, x1, x2⟩, y0, y1, y2⟩ := threeZ X2
    have h1 := setB (p := 0) X2 (.int .i64 (t.rows.length : Int))
    have h2 := setB (p := 1) h1 (.int .i64 (colsOf (max 1 (t.cols.length : Int)) (gridOf t)))
    have o1 := row_set (p := 0) hO2 X2 (by decide) (.int .i64 (t.rows.length : Int))
    have o2 := row_set (p := 1) o1 h1 (by decide) (.int .i64 (colsOf (max 1 (t.cols.length : Int)) (gridOf t)))
    have o3 := row_set (p := 2) o2 h2 (by decide) (.slice va (gridOf t).length vq)
    have hz1 : w.heap.size ≤ w1.heap.size := K1.size
    have HO := Hid.intro (row_base o3 hz1)
    have HB := Hid.intro (((K2.setCell (p := ⟨w.heap.size + 1, 0, none⟩) (by show _ ≤ w.heap.size + 1; omega) (.int .i64 (t.rows.length : Int))).setCell (p := ⟨w.heap.size + 1, 1, none⟩) (by show _ ≤ w.heap.size + 1; omega) (.int .i64 (colsOf (max 1 (t.cols.length : Int)) (gridOf t)))).setCell (p := ⟨w.heap.size + 1, 2, none⟩) (by show _ ≤ w.heap.size + 1; omega) (.slice va (gridOf t).length vq))
    clear h1 h2 o1 o2 o3 hO2 hb2 X2 K2 s0 s1 s2 s3 s4 X1 T1 K1 hb1 X0 T0
    generalize hC : colsOf (max 1 (t.cols.length : Int)) (gridOf t) = C at HG HO HB ⊢
    clear hC
    go_wp2
    exact bodyPost_ret (v := .agg #[.int .i64 (t.rows.length : Int), .int .i64 C, .slice va (gridOf t).length vq]) (by simp [results, Try.results16, go_sem, x0, x1, x2]) rfl ⟨_, by rw [HG.out], by rw [HG.out]; exact HO.out, HB.out⟩
end Go.Proofs.Ytgcobajekffmoab
namespace Go.Proofs.Ytgcobajekffmoab
open Go.RowKit

def cnTo (rs : List R) (k : Nat) : Nat := ((rs.take k).map (fun x => x.cells.length)).sum
theorem cnTo_succ {rs : List R} {k : Nat} (h : k < rs.length) : cnTo rs (k + 1) = cnTo rs k + (rs.getD k dR).cells.length := by
  have e : rs.getD k dR = rs[k] := by simp [List.getD, h]
  rw [e]
  exact sum_take_succ (fun x : R => x.cells.length) rs k h
theorem cnTo_le (rs : List R) (k : Nat) : cnTo rs k ≤ totR rs := by
  have h1 := sum_take_le (fun x : R => x.cells.length) rs k
  have h2 : (rs.map (fun x : R => x.cells.length)).sum ≤ totR rs := by
    clear h1
    induction rs with
    | nil => simp [totR]
    | cons x r ih => have := totC_eq x.cells; simp [totR]; omega
  exact Nat.le_trans h1 h2
end Go.Proofs.Ytgcobajekffmoab
namespace Go.Proofs.Ytgcobajekffmoab

theorem getD_snoc_lt {α : Type} {l : List α} {x d : α} {k : Nat} (h : k < l.length) : (l ++ [x]).getD k d = l.getD k d := by
  simp [List.getD, List.getElem?_append_left h]
theorem getD_snoc_eq {α : Type} {l : List α} {x d : α} : (l ++ [x]).getD l.length d = x := by simp [List.getD]
theorem take_snoc_le {α : Type} {l : List α} {x : α} {k : Nat} (h : k ≤ l.length) : (l ++ [x]).take k = l.take k := by
  rw [List.take_append_of_le_length h]
theorem atCol_place (gs : List GC) (r i : Nat) (e : Int) (x : C) (c : Int) : atCol (place gs r i e x) c = atCol (bare r i e x) c := by simp only [place, atCol]
theorem col_place (gs : List GC) (r i : Nat) (e : Int) (x : C) : (place gs r i e x).col = (ffree gs (bare r i e x) : Int) := by simp only [place, atCol]
/-- of a cell of the grid: which one of the table it is; it stands as far ahead as may be; behind the one ahead of it -/
structure Laid (t : T) (gs : List GC) (k : Nat) : Prop where
  ex : ∃ r j : Nat, r < t.rows.length ∧ j < (t.rows.getD r dR).cells.length ∧ gs.getD k dG = place (gs.take k) r j (endOf t r) ((t.rows.getD r dR).cells.getD j dC)
  free : freeG (gs.take k) (gs.getD k dG) = true
  first : ∀ c : Nat, (c : Int) < (gs.getD k dG).col → freeG (gs.take k) (atCol (gs.getD k dG) c) = false
  after : 0 < k → (gs.getD (k - 1) dG).row < (gs.getD k dG).row ∨ (gs.getD (k - 1) dG).row = (gs.getD k dG).row ∧ (gs.getD (k - 1) dG).ins + 1 = (gs.getD k dG).ins
theorem Laid.snoc {t : T} {gs : List GC} {k : Nat} (x : GC) (hk : k < gs.length) (h : Laid t gs k) : Laid t (gs ++ [x]) k := by
  have e1 : (gs ++ [x]).getD k dG = gs.getD k dG := getD_snoc_lt hk
  have e2 : (gs ++ [x]).take k = gs.take k := take_snoc_le (by omega)
  have e3 : (gs ++ [x]).getD (k - 1) dG = gs.getD (k - 1) dG := getD_snoc_lt (by omega)
  refine ⟨?_, ?_, ?_, ?_⟩
  · rw [e1, e2]; exact h.ex
  · rw [e1, e2]; exact h.free
  · rw [e1, e2]; exact h.first
  · rw [e1, e3]; exact h.after
structure LaidTo (t : T) (gs : List GC) (r i : Nat) : Prop where
  part : Part t gs r i
  laid : ∀ k, k < gs.length → Laid t gs k
  last : 0 < gs.length → (gs.getD (gs.length - 1) dG).row < r ∨ (gs.getD (gs.length - 1) dG).row = r ∧ (gs.getD (gs.length - 1) dG).ins + 1 = i
theorem LaidTo.next {t : T} {gs : List GC} {r i : Nat} (h : LaidTo t gs r i) (hl : Low t) (hr : r < t.rows.length) (hi : i < (t.rows.getD r dR).cells.length) :
    LaidTo t (gs ++ [place gs r i (endOf t r) ((t.rows.getD r dR).cells.getD i dC)]) r (i + 1) := by
  obtain ⟨⟨h1, h2, h3, h4⟩, hp⟩ := h.part.next hl hr hi
  refine ⟨hp, ?_, ?_⟩
  · intro k hk
    rw [List.length_append, List.length_singleton] at hk
    by_cases hk2 : k < gs.length
    · exact (h.laid k hk2).snoc _ hk2
    · obtain rfl : k = gs.length := by omega
      have e2 : ∀ x : GC, (gs ++ [x]).take gs.length = gs := fun x => by rw [take_snoc_le (Nat.le_refl _), List.take_length]
      refine ⟨?_, ?_, ?_, ?_⟩
      · rw [getD_snoc_eq, e2]; exact ⟨r, i, hr, hi, rfl⟩
      · rw [getD_snoc_eq, e2]; exact h2
      · rw [getD_snoc_eq, e2]
        intro c hc
        rw [col_place] at hc
        rw [atCol_place]
        exact h3 c (Int.ofNat_lt.1 hc)
      · intro h0
        rw [getD_snoc_eq, getD_snoc_lt (by omega)]
        exact h.last h0
  · intro _
    rw [List.length_append, List.length_singleton, Nat.add_sub_cancel, getD_snoc_eq]
    refine .inr ⟨rfl, ?_⟩
    show (i : Int) + 1 = ((i + 1 : Nat) : Int)
    omega
theorem LaidTo.zero (t : T) : LaidTo t [] 0 0 := ⟨Part.zero t, fun _ hk => absurd hk (Nat.not_lt_zero _), fun h => absurd h (Nat.lt_irrefl _)⟩
theorem LaidTo.rowEnd {t : T} {gs : List GC} {r : Nat} (h : LaidTo t gs r (t.rows.getD r dR).cells.length) : LaidTo t gs (r + 1) 0 := by
  refine ⟨h.part.rowEnd, h.laid, fun h0 => .inl ?_⟩
  rcases h.last h0 with h1 | ⟨h1, _⟩ <;> omega
theorem laid_row {t : T} (hl : Low t) {r : Nat} (hr : r < t.rows.length) (h : LaidTo t (gridTo t r) r 0) : ∀ i, i ≤ (t.rows.getD r dR).cells.length → LaidTo t (rowTo (endOf t r) r (t.rows.getD r dR).cells (gridTo t r) i) r i
  | 0, _ => h
  | i + 1, hi => LaidTo.next (laid_row hl hr h i (by omega)) hl hr (by omega)
theorem laid_grid {t : T} (hl : Low t) : ∀ r, r ≤ t.rows.length → LaidTo t (gridTo t r) r 0
  | 0, _ => LaidTo.zero t
  | r + 1, hr => (laid_row hl (by omega) (laid_grid hl r (by omega)) _ (Nat.le_refl _)).rowEnd
theorem laid_of {t : T} (hl : Low t) {k : Nat} (hk : k < (gridOf t).length) : Laid t (gridOf t) k := (laid_grid hl _ (Nat.le_refl _)).laid k hk
theorem stands_of {t : T} (hl : Low t) {a : GC} (ha : a ∈ gridOf t) : Stands t.rows.length a := ((part_grid hl _ (Nat.le_refl _)).stands a ha).1
theorem gridTo_len (t : T) : ∀ r, r ≤ t.rows.length → (gridTo t r).length = cnTo t.rows r
  | 0, _ => by simp [gridTo, cnTo]
  | r + 1, hr => by rw [cnTo_succ (by omega), ← gridTo_len t r (by omega), gridTo, rowTo_len]
theorem gridOf_len (t : T) : (gridOf t).length = cnTo t.rows t.rows.length := gridTo_len t _ (Nat.le_refl _)
theorem colsOf_cons (m : Int) (a : GC) (gs : List GC) : colsOf m (a :: gs) = colsOf (max m (a.col + a.cols)) gs := rfl
theorem colsOf_ge : ∀ (gs : List GC) (m : Int), m ≤ colsOf m gs
  | [], m => Int.le_refl _
  | a :: gs, m => by rw [colsOf_cons]; exact Int.le_trans (Int.le_max_left _ _) (colsOf_ge gs _)
theorem colsOf_mem : ∀ {gs : List GC} {m : Int} {a : GC}, a ∈ gs → a.col + a.cols ≤ colsOf m gs
  | b :: gs, m, a, h => by
    rw [colsOf_cons]
    rcases List.mem_cons.1 h with rfl | h
    · exact Int.le_trans (Int.le_max_right _ _) (colsOf_ge gs _)
    · exact colsOf_mem h
theorem colsOf_le : ∀ {gs : List GC} {m B : Int}, m ≤ B → (∀ a ∈ gs, a.col + a.cols ≤ B) → colsOf m gs ≤ B
  | [], m, B, h, _ => h
  | a :: gs, m, B, h, h2 => by
    rw [colsOf_cons]
    exact colsOf_le (Int.max_le.2 ⟨h, h2 a (by simp)⟩) (fun b hb => h2 b (by simp [hb]))
theorem cols_bounds {t : T} (hl : Low t) (hc : t.cols.length ≤ 8) : 1 ≤ colsOf (max 1 (t.cols.length : Int)) (gridOf t) ∧ colsOf (max 1 (t.cols.length : Int)) (gridOf t) ≤ 88 ∧ (t.cols.length : Int) ≤ colsOf (max 1 (t.cols.length : Int)) (gridOf t) := by
  have h1 := colsOf_ge (gridOf t) (max 1 (t.cols.length : Int))
  have h2 : colsOf (max 1 (t.cols.length : Int)) (gridOf t) ≤ 88 := colsOf_le (by omega) (fun a ha => by have := stands_of hl ha; unfold Stands at this; omega)
  omega
theorem fits_stands {t : T} (hl : Low t) {a : GC} (ha : a ∈ gridOf t) : fitsB t.rows.length (colsOf (max 1 (t.cols.length : Int)) (gridOf t)) a = true := by
  have h1 := stands_of hl ha
  have h2 := colsOf_mem (m := max 1 (t.cols.length : Int)) ha
  unfold Stands at h1
  simp only [fitsB, inB, Bool.and_eq_true, decide_eq_true_eq]
  omega
theorem gridOf_ok {t : T} (hl : Low t) (hr : 1 ≤ t.rows.length) (hc : t.cols.length ≤ 8) : okB ⟨t.rows.length, colsOf (max 1 (t.cols.length : Int)) (gridOf t), gridOf t⟩ = true := by
  have hb := cols_bounds hl hc
  have h8 := hl.rows
  have hlen := grid_len hl t.rows.length
  unfold okB
  rw [Bool.and_eq_true]
  constructor
  · refine bounds_intro ?_ ?_ ?_
    · simp [inB]; omega
    · simp [inB]; omega
    · show (gridTo t t.rows.length).length ≤ 40
      omega
  · refine List.all_eq_true.2 (fun i hi => ?_)
    have hi : i < (gridOf t).length := List.mem_range.1 hi
    rw [Bool.and_eq_true]
    exact ⟨fits_stands hl (getD_mem' hi), (laid_of hl hi).free⟩
end Go.Proofs.Ytgcobajekffmoab
namespace Go.Proofs.Ytgcobajekffmoab
open Go.RowKit

set_option maxRecDepth 100000 in
set_option maxHeartbeats 1000000 in
theorem pwGrid_any (R C : Int) (v1 v2 : Value) (gs : List GC) (w : World) {z1 z2 : Nat} (h1 : GsAt w z1 v1 gs) (h2 : GsAt w z2 v2 gs) :
    Calls Try.prog 15 #[.agg #[.int .i64 R, .int .i64 C, v1], .agg #[.int .i64 R, .int .i64 C, v2]] w fun e w' => e = .returned (.bool true) ∧ Below w.heap.size w w' := by
  obtain ⟨a1, cap1, rfl, hlen⟩ := At.form h1
  obtain ⟨a2, cap2, rfl, _⟩ := At.form h2
  unfold maxLen at hlen
  have hne : ((gs.length : Int) != (gs.length : Int)) = false := by simp
  have hRR : (R != R) = false := by simp
  have hCC : (C != C) = false := by simp
  have K0 := k_alloc (k_alloc (Below.refl w.heap.size w) (.cells #[.int .i64 R, .int .i64 C, .slice a1 gs.length cap1] 39)) (.cells #[.int .i64 R, .int .i64 C, .slice a2 gs.length cap2] 39)
  have H1 := Hid.intro (h1.kept K0)
  have H2 := Hid.intro (h2.kept K0)
  have HK := Hid.intro K0
  clear h1 h2 K0
  go_enter Try.func15, Try.ntmps15
  go_wp2_with fail
  generalize hW : (w.alloc (.cells #[.int .i64 R, .int .i64 C, .slice a1 gs.length cap1] 39)).alloc (.cells #[.int .i64 R, .int .i64 C, .slice a2 gs.length cap2] 39) = W0 at H1 H2 HK
  have y1 : W0.cell? ⟨w.heap.size, 2, none⟩ = some (.slice a1 gs.length cap1) := by rw [← hW]; exact cellB ((Below.heap_alloc _ _ _ (by simp)).trans (newestB _ _))
  have y2 : W0.cell? ⟨w.heap.size + 1, 2, none⟩ = some (.slice a2 gs.length cap2) := by
    have h := newestB (w.alloc (.cells #[.int .i64 R, .int .i64 C, .slice a1 gs.length cap1] 39)) (.cells #[.int .i64 R, .int .i64 C, .slice a2 gs.length cap2] 39)
    rw [hW] at h
    exact cellB (by simpa using h)
  go_loopw [5] (fun i W => ∃ k n : Nat, k ≤ gs.length ∧ i = .int .i64 k ∧ W = W0.drewN n) (fun i _ => gs.length - (intOf i).toNat)
  case atStart => exact ⟨0, 0, Nat.zero_le _, rfl, hW ▸ rfl⟩
  case round =>
    obtain ⟨k, nd, hk, rfl, rfl⟩ := hrel
    by_cases hlt : k < gs.length
    · obtain ⟨b1, off1, cap1', e1, hc11, hc12, hbl1, x0, _⟩ := At.get H1.out hlt
      simp only [Value.slice.injEq, true_and] at e1
      obtain ⟨rfl, rfl⟩ := e1
      obtain ⟨b2, off2, cap2', e2, hc21, hc22, hbl2, z0, _⟩ := At.get H2.out hlt
      simp only [Value.slice.injEq, true_and] at e2
      obtain ⟨rfl, rfl⟩ := e2
      unfold maxLen at hc12 hc22
      generalize gs.getD k dG = x at x0 z0
      obtain ⟨x0, x1, x2, x3, x4⟩ := x0
      obtain ⟨z0, z1, z2, z3, z4⟩ := z0
      go_wp2_with fail
      go_quiet (fail)
      trace_state
      go_wp2
      go_roundw
      case rel => exact ⟨k + 1, nd + nq, by omega, by go_num, rfl⟩
      case measure => simp [intOf]; omega
    · go_wp2
      go_ret
      exact ⟨rfl, k_drewN HK.out _⟩
end Go.Proofs.Ytgcobajekffmoab
namespace Go.Proofs.Ytgcobajekffmoab
open Go.RowKit

theorem vB {a b : Bool} (h : a = b) : Value.bool a = .bool b := by rw [h]
/-- the table, its two slices at hand -/
def TA (w : World) (z : Nat) (ac ar : Option Addr) (cc cr : Nat) (t : T) : Prop := ColsAt w z (.slice ac t.cols.length cc) t.cols ∧ RowsAt w z (.slice ar t.rows.length cr) t.rows
theorem TA.kept {w w' : World} {z : Nat} {ac ar : Option Addr} {cc cr : Nat} {t : T} (h : TA w z ac ar cc cr t) (hb : Below w.heap.size w w') : TA w' z ac ar cc cr t := ⟨h.1.kept hb, h.2.kept hb⟩
/-- what stays all along -/
def St (w : World) (tb : Nat) (ac ar : Option Addr) (cc cr : Nat) (t : T) (W : World) : Prop := Below w.heap.size w W ∧ TA W w.heap.size ac ar cc cr t ∧ W.heap[tb]? = some (.cells #[.slice ac t.cols.length cc, .int .i64 t.head, .int .i64 t.foot, .slice ar t.rows.length cr, .int .i64 t.gap] 26)
theorem St.kept {w W W' : World} {tb : Nat} {ac ar : Option Addr} {cc cr : Nat} {t : T} (h : St w tb ac ar cc cr t W) (hb : Below W.heap.size W W') : St w tb ac ar cc cr t W' :=
  ⟨h.1.trans (hb.mono h.1.size), h.2.1.kept hb, (hb.block tb (Array.getElem?_eq_some_iff.1 h.2.2).1).trans h.2.2⟩
theorem St.at {w W : World} {tb : Nat} {ac ar : Option Addr} {cc cr : Nat} {t : T} (h : St w tb ac ar cc cr t W) : (W.cell? ⟨tb, 0, none⟩ = some (.slice ac t.cols.length cc) ∧ W.cell? ⟨tb, 1, none⟩ = some (.int .i64 t.head) ∧ W.cell? ⟨tb, 2, none⟩ = some (.int .i64 t.foot) ∧ W.cell? ⟨tb, 3, none⟩ = some (.slice ar t.rows.length cr) ∧ W.cell? ⟨tb, 4, none⟩ = some (.int .i64 t.gap)) := (fiveZ h.2.2).1
/-- the grid's cells are numbers -/
theorem gOf_gok {t : T} (hD : Drawn t) : ∀ x ∈ (gOf t).cells, GOk x := by
  unfold gOf
  split
  · rename_i h
    have hl := low_of h hD
    exact fun x hx => (stands_of hl hx).gok hl.rows
  · intro x hx
    cases hx
def SGr (w : World) (tb gb : Nat) (ac ar : Option Addr) (cc cr : Nat) (t : T) (ag : Option Addr) (cg : Nat) (W : World) : Prop :=
  St w tb ac ar cc cr t W ∧ GsAt W w.heap.size (.slice ag (gOf t).cells.length cg) (gOf t).cells ∧ W.heap[gb]? = some (.cells #[.int .i64 (gOf t).rows, .int .i64 (gOf t).cols, .slice ag (gOf t).cells.length cg] 39)
theorem SGr.kept {w W W' : World} {tb gb : Nat} {ac ar ag : Option Addr} {cc cr cg : Nat} {t : T} (h : SGr w tb gb ac ar cc cr t ag cg W) (hb : Below W.heap.size W W') : SGr w tb gb ac ar cc cr t ag cg W' :=
  ⟨h.1.kept hb, h.2.1.kept hb, (hb.block gb (Array.getElem?_eq_some_iff.1 h.2.2).1).trans h.2.2⟩
theorem SGr.at {w W : World} {tb gb : Nat} {ac ar ag : Option Addr} {cc cr cg : Nat} {t : T} (h : SGr w tb gb ac ar cc cr t ag cg W) : W.cell? ⟨gb, 0, none⟩ = some (.int .i64 (gOf t).rows) ∧ W.cell? ⟨gb, 1, none⟩ = some (.int .i64 (gOf t).cols) ∧ W.cell? ⟨gb, 2, none⟩ = some (.slice ag (gOf t).cells.length cg) :=
  ⟨cellB h.2.2, cellB h.2.2, cellB h.2.2⟩
theorem own_slice {w : World} {base : Nat} {v : Value} {gs : List GC} (h : OwnG w base v gs) : ∃ a cap, v = .slice a gs.length cap := by
  rcases h.2 with ⟨rfl, hn⟩ | ⟨g, cap, cur, rfl, _⟩
  · exact ⟨none, 0, by rw [hn]⟩
  · exact ⟨_, cap, rfl⟩
theorem gOf_ok {t : T} (h : tblB t = true) : gOf t = ⟨t.rows.length, colsOf (max 1 (t.cols.length : Int)) (gridOf t), gridOf t⟩ := by unfold gOf; rw [if_pos h]
theorem gOf_no {t : T} (h : tblB t = false) : gOf t = ⟨0, 0, []⟩ := by unfold gOf; rw [if_neg (by rw [h]; simp)]
/-- and a cell in its box -/
def SCe (w : World) (tb gb cb : Nat) (ac ar : Option Addr) (cc cr : Nat) (t : T) (ag : Option Addr) (cg : Nat) (x : GC) (W : World) : Prop :=
  SGr w tb gb ac ar cc cr t ag cg W ∧ W.heap[cb]? = some (.cells #[.int .i64 x.row, .int .i64 x.col, .int .i64 x.rows, .int .i64 x.cols, .int .i64 x.ins] 45)
theorem SCe.kept {w W W' : World} {tb gb cb : Nat} {ac ar ag : Option Addr} {cc cr cg : Nat} {t : T} {x : GC} (h : SCe w tb gb cb ac ar cc cr t ag cg x W) (hb : Below W.heap.size W W') : SCe w tb gb cb ac ar cc cr t ag cg x W' :=
  ⟨h.1.kept hb, (hb.block cb (Array.getElem?_eq_some_iff.1 h.2).1).trans h.2⟩
theorem SCe.at {w W : World} {tb gb cb : Nat} {ac ar ag : Option Addr} {cc cr cg : Nat} {t : T} {x : GC} (h : SCe w tb gb cb ac ar cc cr t ag cg x W) : W.cell? ⟨cb, 0, none⟩ = some (.int .i64 x.row) ∧ W.cell? ⟨cb, 1, none⟩ = some (.int .i64 x.col) ∧ W.cell? ⟨cb, 2, none⟩ = some (.int .i64 x.rows) ∧ W.cell? ⟨cb, 3, none⟩ = some (.int .i64 x.cols) ∧ W.cell? ⟨cb, 4, none⟩ = some (.int .i64 x.ins) :=
  ⟨cellB h.2, cellB h.2, cellB h.2, cellB h.2, cellB h.2⟩
/-- small numbers -/
def Small (x : GC) : Prop := (0 ≤ x.row ∧ x.row ≤ 8) ∧ (0 ≤ x.col ∧ x.col ≤ 84) ∧ (1 ≤ x.rows ∧ x.rows ≤ 3) ∧ (1 ≤ x.cols ∧ x.cols ≤ 4) ∧ 0 ≤ x.ins ∧ x.ins ≤ 4
theorem Stands.small {n : Nat} {a : GC} (hn : n ≤ 8) (h : Stands n a) : Small a := by
  unfold Stands at h
  unfold Small
  omega
end Go.Proofs.Ytgcobajekffmoab
namespace Go.Proofs.Ytgcobajekffmoab
open Go.RowKit

theorem IsCode.kept {w w' : World} {a : Option Addr} {len cap : Nat} (h : IsCode w a len cap) (hb : Below w.heap.size w w') : IsCode w' a len cap := by
  obtain ⟨h1, h2, hc⟩ := h
  refine ⟨h1, h2, fun i hi => ?_⟩
  obtain ⟨b, off, z, e, l, c, z0, z1⟩ := hc i hi
  exact ⟨b, off, z, e, Nat.lt_of_lt_of_le l hb.size, (hb.cell (p := ⟨b, off + i, none⟩) l).trans c, z0, z1⟩
/-- a table that lies in memory abides five stores into a block that was there ahead of it -/
theorem Since.st5 {w : World} {z g : Nat} (hg : g < z) (y0 y1 y2 y3 y4 : Value) : Since z w (st5 w g y0 y1 y2 y3 y4) := ⟨(st5_bk w g y0 y1 y2 y3 y4).size, fun k hk hl => (st5_bk w g y0 y1 y2 y3 y4).block k hl (by omega)⟩

end Go.Proofs.Ytgcobajekffmoab
namespace Go.Proofs.Ytgcobajekffmoab
open Go.RowKit

set_option maxRecDepth 100000 in
set_option maxHeartbeats 1000000 in
theorem drawGrdOf_any (a : Option Addr) (len cap : Nat) (w : World) (h : IsCode w a len cap) :
    Calls Try.prog 18 #[.slice a len cap] w fun e w' => ∃ (ac ar : Option Addr) (cc cr : Nat) (t : T), e = .returned (.agg #[.slice ac t.cols.length cc, .int .i64 t.head, .int .i64 t.foot, .slice ar t.rows.length cr, .int .i64 t.gap]) ∧ Drawn t ∧
      ColsAt w' w.heap.size (.slice ac t.cols.length cc) t.cols ∧ RowsAt w' w.heap.size (.slice ar t.rows.length cr) t.rows ∧ Below w.heap.size w w' := by
  have K0 := k_alloc (Below.refl w.heap.size w) (.cells #[.slice none 0 0, .int .i64 0, .int .i64 0, .slice none 0 0, .int .i64 0] 26)
  have HC := Hid.intro (h.kept K0)
  have X0 := newestB w (.cells #[.slice none 0 0, .int .i64 0, .int .i64 0, .slice none 0 0, .int .i64 0] 26)
  clear h
  have hsz : (w.alloc (.cells #[.slice none 0 0, .int .i64 0, .int .i64 0, .slice none 0 0, .int .i64 0] 26)).heap.size = w.heap.size + 1 := by simp
  go_enter Try.func18, Try.ntmps18
  go_wp2_with fail
  refine (open_any _ _ _ _ HC.out).mono ?_
  rintro e w1 ⟨rfl, hR1, hb1⟩
  rw [hsz] at hR1 hb1
  have X1 := (hb1.block w.heap.size (by omega)).trans X0
  have K1 := k_trans K0 (by rw [hsz]; exact hb1)
  have hz1 := hR1.lt
  go_wp2_with fail
  refine (l20AnyTable_any (w.heap.size + 1) 0 12 (by omega) _ hR1 (by omega)).mono ?_
  rintro e w2 ⟨ac, ar, cc, cr, t, rfl, hD, hC2, hW2, hR2, hb2⟩
  have X2 := (hb2.block w.heap.size (by omega) (by omega)).trans X1
  have K2 := K1.trans (hb2.below (by omega) (by omega))
  have hz2 : w.heap.size + 1 < w2.heap.size := hR2.lt
  have hw1 : w.heap.size + 2 ≤ w1.heap.size := by omega
  have HC3 := Hid.intro ((hC2.base hw1).since (Since.st5 (z := w.heap.size + 2) (g := w.heap.size) (by omega) (.slice ac t.cols.length cc) (.int .i64 t.head) (.int .i64 t.foot) (.slice ar t.rows.length cr) (.int .i64 t.gap)))
  have HW3 := Hid.intro ((hW2.base hw1).since (Since.st5 (z := w.heap.size + 2) (g := w.heap.size) (by omega) (.slice ac t.cols.length cc) (.int .i64 t.head) (.int .i64 t.foot) (.slice ar t.rows.length cr) (.int .i64 t.gap)))
  have K3 := Hid.intro (K2.trans ((st5_bk w2 w.heap.size (.slice ac t.cols.length cc) (.int .i64 t.head) (.int .i64 t.foot) (.slice ar t.rows.length cr) (.int .i64 t.gap)).below (by omega) (Nat.le_refl _)))
  have HD := Hid.intro hD
  obtain ⟨⟨x0, x1, x2, x3, x4⟩, y0, y1, y2, y3, y4⟩ := fiveZ X2
  clear hC2 hW2 hR2 hb2 X2 X1 X0 K0 K1 K2 hD HC hR1 hb1
  go_wp2
  exact bodyPost_ret (v := .agg #[.slice ac t.cols.length cc, .int .i64 t.head, .int .i64 t.foot, .slice ar t.rows.length cr, .int .i64 t.gap]) (by simp [results, Try.results18, go_sem, x0, x1, x2, x3, x4]) rfl ⟨ac, ar, cc, cr, t, rfl, HD.out, HC3.out.base (by omega), HW3.out.base (by omega), K3.out⟩
end Go.Proofs.Ytgcobajekffmoab
namespace Go.Proofs.Ytgcobajekffmoab
open Go.RowKit

set_option maxRecDepth 100000 in
set_option maxHeartbeats 400000 in
theorem implBrdOk (a b : Int) (w : World) :
    Calls Try.prog 60 #[.agg #[.int .i64 a, .int .i64 b]] w fun e w' => e = .returned (.bool (brdOkB a b)) ∧ w' = w.alloc (.cells #[.int .i64 a, .int .i64 b] 47) := by
  by_cases h0 : a = 0
  · subst h0
    go_enter Try.func60, Try.ntmps60
    go_wp2
    go_ret
    exact ⟨retB (brd_zero b).symm, rfl⟩
  by_cases h4 : a = 4
  · subst h4
    go_enter Try.func60, Try.ntmps60
    go_wp2
    go_ret
    exact ⟨retB (brd_four b).symm, rfl⟩
  by_cases h1 : a = 1
  · subst h1
    go_enter Try.func60, Try.ntmps60
    go_wp2_with (go_at_call 24; refine (within_any _ _ _ _).mono ?_; rintro e w' ⟨rfl, rfl⟩)
    go_ret
    exact ⟨retB (brd_seen b (by omega) (by omega)).symm, rfl⟩
  by_cases h2 : a = 2
  · subst h2
    go_enter Try.func60, Try.ntmps60
    go_wp2_with (go_at_call 24; refine (within_any _ _ _ _).mono ?_; rintro e w' ⟨rfl, rfl⟩)
    go_ret
    exact ⟨retB (brd_seen b (by omega) (by omega)).symm, rfl⟩
  by_cases h3 : a = 3
  · subst h3
    go_enter Try.func60, Try.ntmps60
    go_wp2_with (go_at_call 24; refine (within_any _ _ _ _).mono ?_; rintro e w' ⟨rfl, rfl⟩)
    go_ret
    exact ⟨retB (brd_seen b (by omega) (by omega)).symm, rfl⟩
  have e0 : (a == 0) = false := beq_eq_false_iff_ne.2 h0
  have e1 : (a == 1) = false := beq_eq_false_iff_ne.2 h1
  have e2 : (a == 2) = false := beq_eq_false_iff_ne.2 h2
  have e3 : (a == 3) = false := beq_eq_false_iff_ne.2 h3
  have e4 : (a == 4) = false := beq_eq_false_iff_ne.2 h4
  have HB : Hid (brdOkB a b = false) := brd_other b h0 h4 (by omega)
  clear h0 h1 h2 h3 h4
  go_enter Try.func60, Try.ntmps60
  go_wp2
  go_ret
  exact ⟨retB HB.out.symm, rfl⟩
end Go.Proofs.Ytgcobajekffmoab
