/-
  PROVED HERE: where each cell of a drawn table's grid stands: in its row, behind the one ahead of it, at the first column at which it is free; the grid is ok; it has as many cells as the table. Also: a table made plain: all its cells over one column and row, nothing said of columns; where the cells of such a table stand in its grid; facts on lists alone.
-/
import Derived.Test.YtggmjiddadjilalB5
import Derived.Test.YtggmjiddadjilalB20
import Derived.Test.YtggmjiddadjilalB15
namespace Go.Proofs.Ytggmjiddadjilal

theorem getD_snoc_lt {α : Type} {l : List α} {x d : α} {k : Nat} (h : k < l.length) : (l ++ [x]).getD k d = l.getD k d := by
  simp [List.getD, List.getElem?_append_left h]
theorem getD_snoc_eq {α : Type} {l : List α} {x d : α} : (l ++ [x]).getD l.length d = x := by simp [List.getD]
theorem take_snoc_le {α : Type} {l : List α} {x : α} {k : Nat} (h : k ≤ l.length) : (l ++ [x]).take k = l.take k := by
  rw [List.take_append_of_le_length h]
theorem atCol_place (gs : List GC) (r i : Nat) (e : Int) (x : C) (c : Int) : atCol (place gs r i e x) c = atCol (bare r i e x) c := by simp only [place, atCol]
theorem col_place (gs : List GC) (r i : Nat) (e : Int) (x : C) : (place gs r i e x).col = (ffree gs (bare r i e x) : Int) := by simp only [place, atCol]
/-- of a cell of the grid: which one of the table it is; it stands as far ahead as may be; behind the one ahead of it -/
structure Laid (t : T) (gs : List GC) (k : Nat) : Prop where
  ex : ∃ r j : Nat, r < t.rows.length ∧ j < (t.rows.getD r dR).cells.length ∧ gs.getD k dG = place (gs.take k) r j (endOf t r) ((t.rows.getD r dR).cells.getD j dC)
  free : freeG (gs.take k) (gs.getD k dG) = true
  first : ∀ c : Nat, (c : Int) < (gs.getD k dG).col → freeG (gs.take k) (atCol (gs.getD k dG) c) = false
  after : 0 < k → (gs.getD (k - 1) dG).row < (gs.getD k dG).row ∨ (gs.getD (k - 1) dG).row = (gs.getD k dG).row ∧ (gs.getD (k - 1) dG).ins + 1 = (gs.getD k dG).ins
theorem Laid.snoc {t : T} {gs : List GC} {k : Nat} (x : GC) (hk : k < gs.length) (h : Laid t gs k) : Laid t (gs ++ [x]) k := by
  have e1 : (gs ++ [x]).getD k dG = gs.getD k dG := getD_snoc_lt hk
  have e2 : (gs ++ [x]).take k = gs.take k := take_snoc_le (by omega)
  have e3 : (gs ++ [x]).getD (k - 1) dG = gs.getD (k - 1) dG := getD_snoc_lt (by omega)
  refine ⟨?_, ?_, ?_, ?_⟩
  · rw [e1, e2]; exact h.ex
  · rw [e1, e2]; exact h.free
  · rw [e1, e2]; exact h.first
  · rw [e1, e3]; exact h.after
structure LaidTo (t : T) (gs : List GC) (r i : Nat) : Prop where
  part : Part t gs r i
  laid : ∀ k, k < gs.length → Laid t gs k
  last : 0 < gs.length → (gs.getD (gs.length - 1) dG).row < r ∨ (gs.getD (gs.length - 1) dG).row = r ∧ (gs.getD (gs.length - 1) dG).ins + 1 = i
theorem LaidTo.next {t : T} {gs : List GC} {r i : Nat} (h : LaidTo t gs r i) (hl : Low t) (hr : r < t.rows.length) (hi : i < (t.rows.getD r dR).cells.length) :
    LaidTo t (gs ++ [place gs r i (endOf t r) ((t.rows.getD r dR).cells.getD i dC)]) r (i + 1) := by
  obtain ⟨⟨h1, h2, h3, h4⟩, hp⟩ := h.part.next hl hr hi
  refine ⟨hp, ?_, ?_⟩
  · intro k hk
    rw [List.length_append, List.length_singleton] at hk
    by_cases hk2 : k < gs.length
    · exact (h.laid k hk2).snoc _ hk2
    · obtain rfl : k = gs.length := by omega
      have e2 : ∀ x : GC, (gs ++ [x]).take gs.length = gs := fun x => by rw [take_snoc_le (Nat.le_refl _), List.take_length]
      refine ⟨?_, ?_, ?_, ?_⟩
      · rw [getD_snoc_eq, e2]; exact ⟨r, i, hr, hi, rfl⟩
      · rw [getD_snoc_eq, e2]; exact h2
      · rw [getD_snoc_eq, e2]
        intro c hc
        rw [col_place] at hc
        rw [atCol_place]
        exact h3 c (Int.ofNat_lt.1 hc)
      · intro h0
        rw [getD_snoc_eq, getD_snoc_lt (by omega)]
        exact h.last h0
  · intro _
    rw [List.length_append, List.length_singleton, Nat.add_sub_cancel, getD_snoc_eq]
    refine .inr ⟨rfl, ?_⟩
    show (i : Int) + 1 = ((i + 1 : Nat) : Int)
    omega
theorem LaidTo.zero (t : T) : LaidTo t [] 0 0 := ⟨Part.zero t, fun _ hk => absurd hk (Nat.not_lt_zero _), fun h => absurd h (Nat.lt_irrefl _)⟩
theorem LaidTo.rowEnd {t : T} {gs : List GC} {r : Nat} (h : LaidTo t gs r (t.rows.getD r dR).cells.length) : LaidTo t gs (r + 1) 0 := by
  refine ⟨h.part.rowEnd, h.laid, fun h0 => .inl ?_⟩
  rcases h.last h0 with h1 | ⟨h1, _⟩ <;> omega
theorem laid_row {t : T} (hl : Low t) {r : Nat} (hr : r < t.rows.length) (h : LaidTo t (gridTo t r) r 0) : ∀ i, i ≤ (t.rows.getD r dR).cells.length → LaidTo t (rowTo (endOf t r) r (t.rows.getD r dR).cells (gridTo t r) i) r i
  | 0, _ => h
  | i + 1, hi => LaidTo.next (laid_row hl hr h i (by omega)) hl hr (by omega)
theorem laid_grid {t : T} (hl : Low t) : ∀ r, r ≤ t.rows.length → LaidTo t (gridTo t r) r 0
  | 0, _ => LaidTo.zero t
  | r + 1, hr => (laid_row hl (by omega) (laid_grid hl r (by omega)) _ (Nat.le_refl _)).rowEnd
theorem laid_of {t : T} (hl : Low t) {k : Nat} (hk : k < (gridOf t).length) : Laid t (gridOf t) k := (laid_grid hl _ (Nat.le_refl _)).laid k hk
theorem stands_of {t : T} (hl : Low t) {a : GC} (ha : a ∈ gridOf t) : Stands t.rows.length a := ((part_grid hl _ (Nat.le_refl _)).stands a ha).1
theorem gridTo_len (t : T) : ∀ r, r ≤ t.rows.length → (gridTo t r).length = cnTo t.rows r
  | 0, _ => by simp [gridTo, cnTo]
  | r + 1, hr => by rw [cnTo_succ (by omega), ← gridTo_len t r (by omega), gridTo, rowTo_len]
theorem gridOf_len (t : T) : (gridOf t).length = cnTo t.rows t.rows.length := gridTo_len t _ (Nat.le_refl _)
theorem colsOf_cons (m : Int) (a : GC) (gs : List GC) : colsOf m (a :: gs) = colsOf (max m (a.col + a.cols)) gs := rfl
theorem colsOf_ge : ∀ (gs : List GC) (m : Int), m ≤ colsOf m gs
  | [], m => Int.le_refl _
  | a :: gs, m => by rw [colsOf_cons]; exact Int.le_trans (Int.le_max_left _ _) (colsOf_ge gs _)
theorem colsOf_mem : ∀ {gs : List GC} {m : Int} {a : GC}, a ∈ gs → a.col + a.cols ≤ colsOf m gs
  | b :: gs, m, a, h => by
    rw [colsOf_cons]
    rcases List.mem_cons.1 h with rfl | h
    · exact Int.le_trans (Int.le_max_right _ _) (colsOf_ge gs _)
    · exact colsOf_mem h
theorem colsOf_le : ∀ {gs : List GC} {m B : Int}, m ≤ B → (∀ a ∈ gs, a.col + a.cols ≤ B) → colsOf m gs ≤ B
  | [], m, B, h, _ => h
  | a :: gs, m, B, h, h2 => by
    rw [colsOf_cons]
    exact colsOf_le (Int.max_le.2 ⟨h, h2 a (by simp)⟩) (fun b hb => h2 b (by simp [hb]))
theorem cols_bounds {t : T} (hl : Low t) (hc : t.cols.length ≤ 8) : 1 ≤ colsOf (max 1 (t.cols.length : Int)) (gridOf t) ∧ colsOf (max 1 (t.cols.length : Int)) (gridOf t) ≤ 88 ∧ (t.cols.length : Int) ≤ colsOf (max 1 (t.cols.length : Int)) (gridOf t) := by
  have h1 := colsOf_ge (gridOf t) (max 1 (t.cols.length : Int))
  have h2 : colsOf (max 1 (t.cols.length : Int)) (gridOf t) ≤ 88 := colsOf_le (by omega) (fun a ha => by have := stands_of hl ha; unfold Stands at this; omega)
  omega
theorem fits_stands {t : T} (hl : Low t) {a : GC} (ha : a ∈ gridOf t) : fitsB t.rows.length (colsOf (max 1 (t.cols.length : Int)) (gridOf t)) a = true := by
  have h1 := stands_of hl ha
  have h2 := colsOf_mem (m := max 1 (t.cols.length : Int)) ha
  unfold Stands at h1
  simp only [fitsB, inB, Bool.and_eq_true, decide_eq_true_eq]
  omega
theorem gridOf_ok {t : T} (hl : Low t) (hr : 1 ≤ t.rows.length) (hc : t.cols.length ≤ 8) : okB ⟨t.rows.length, colsOf (max 1 (t.cols.length : Int)) (gridOf t), gridOf t⟩ = true := by
  have hb := cols_bounds hl hc
  have h8 := hl.rows
  have hlen := grid_len hl t.rows.length
  unfold okB
  rw [Bool.and_eq_true]
  constructor
  · refine bounds_intro ?_ ?_ ?_
    · simp [inB]; omega
    · simp [inB]; omega
    · show (gridTo t t.rows.length).length ≤ 40
      omega
  · refine List.all_eq_true.2 (fun i hi => ?_)
    have hi : i < (gridOf t).length := List.mem_range.1 hi
    rw [Bool.and_eq_true]
    exact ⟨fits_stands hl (getD_mem' hi), (laid_of hl hi).free⟩
end Go.Proofs.Ytggmjiddadjilal
namespace Go.Proofs.Ytggmjiddadjilal
open Go.RowKit

def plC (x : C) : C := { x with c := 1, r := 1 }
def plR (r : R) : R := { r with cells := r.cells.map plC }
def plT (t : T) : T := { t with cols := [], rows := t.rows.map plR }
theorem plR_get (t : T) (i : Nat) : (plT t).rows.getD i dR = plR (t.rows.getD i dR) := by
  show (t.rows.map plR).getD i dR = plR (t.rows.getD i dR)
  by_cases h : i < t.rows.length
  · simp [List.getD, h]
  · simp [List.getD, h, plR, dR]
theorem plT_drawn {t : T} (h : Drawn t) : Drawn (plT t) := by
  refine ⟨by show (t.rows.map plR).length ≤ 9; rw [List.length_map]; exact h.rows, Nat.zero_le _, h.head, h.foot, h.gap, fun r hr x hx => ?_, ?_⟩
  · obtain ⟨r0, hr0, rfl⟩ := List.mem_map.1 hr
    obtain ⟨x0, hx0, rfl⟩ := List.mem_map.1 hx
    exact ⟨(h.cells r0 hr0 x0 hx0).1, .inl (by show (1 : Int) ≤ 3; omega)⟩
  · obtain ⟨k, hk⟩ := h.few
    refine ⟨k, fun i => ?_⟩
    rw [plR_get]
    show ((t.rows.getD i dR).cells.map plC).length ≤ _
    rw [List.length_map]
    exact hk i
theorem plT_ok {t : T} (h : tblB t = true) : tblB (plT t) = true := by
  unfold tblB at h ⊢
  simp only [Bool.and_eq_true] at h ⊢
  obtain ⟨h1, h2, h3, h4, h5⟩ := h
  have hl : (plT t).rows.length = t.rows.length := by show (t.rows.map plR).length = _; rw [List.length_map]
  refine ⟨by rw [hl]; exact h1, by rw [hl]; exact h2, h3, rfl, ?_⟩
  rw [List.all_eq_true] at h5 ⊢
  intro r hr
  obtain ⟨r0, hr0, rfl⟩ := List.mem_map.1 hr
  have h6 := h5 r0 hr0
  unfold rowB at h6 ⊢
  rw [Bool.and_eq_true] at h6 ⊢
  refine ⟨by show decide ((r0.cells.map plC).length ≤ 5) = true; rw [List.length_map]; exact h6.1, ?_⟩
  have h7 := h6.2
  rw [List.all_eq_true] at h7 ⊢
  intro x hx
  obtain ⟨x0, hx0, rfl⟩ := List.mem_map.1 hx
  have h8 := h7 x0 hx0
  simp only [cB, cellOkB, Bool.and_eq_true] at h8 ⊢
  exact ⟨h8.1, rfl, rfl, h8.2.2.2⟩
/-- what is known of the cells that stand, so far, in the grid of a plain table -/
structure PlG (r i : Nat) (gs : List GC) : Prop where
  each : ∀ a ∈ gs, a.rows = 1 ∧ a.cols = 1 ∧ a.col = a.ins ∧ 0 ≤ a.ins ∧ (a.row < r ∨ a.row = r ∧ a.ins < i)
  all : ∀ j : Nat, j < i → ∃ a ∈ gs, a.row = r ∧ a.ins = j
theorem plG_place {gs : List GC} {r i : Nat} (h : PlG r i gs) (hi : i < 1000) {e : Int} (he : (r : Int) < e) {x : C} (hx : x.c = 1 ∧ x.r = 1) : place gs r i e x = ⟨r, i, 1, 1, i⟩ := by
  have hb : bare r i e x = ⟨r, 0, 1, 1, i⟩ := by
    unfold bare
    rw [hx.1, hx.2, show min (1 : Int) (e - r) = 1 by omega]
  have hfree : freeG gs (atCol ⟨r, 0, 1, 1, i⟩ ((i : Nat) : Int)) = true := by
    unfold freeG
    rw [List.all_eq_true]
    intro a ha
    obtain ⟨h1, h2, h3, h4, h5⟩ := h.each a ha
    cases hm : meetsB a (atCol ⟨r, 0, 1, 1, i⟩ ((i : Nat) : Int)) with
    | false => rfl
    | true =>
      exfalso
      unfold meetsB atCol at hm
      simp only [Bool.and_eq_true, decide_eq_true_eq] at hm
      omega
  obtain ⟨f1, f2, f3⟩ := ffree_le hi hfree
  have hF : ffree gs ⟨r, 0, 1, 1, i⟩ = i := by
    rcases Nat.lt_or_eq_of_le f1 with hlt | he
    · exfalso
      obtain ⟨a, ha, a1, a2⟩ := h.all _ hlt
      obtain ⟨h1, h2, h3, h4, h5⟩ := h.each a ha
      unfold freeG at f2
      have := List.all_eq_true.1 f2 a ha
      have hm : meetsB a (atCol ⟨r, 0, 1, 1, i⟩ ((ffree gs ⟨r, 0, 1, 1, i⟩ : Nat) : Int)) = true := by
        unfold meetsB atCol
        simp only [Bool.and_eq_true, decide_eq_true_eq]
        omega
      rw [hm] at this
      cases this
    · exact he
  unfold place
  rw [hb, hF]
  rfl
theorem plG_next {gs : List GC} {r i : Nat} (h : PlG r i gs) : PlG r (i + 1) (gs ++ [⟨r, i, 1, 1, i⟩]) := by
  refine ⟨fun a ha => ?_, fun j hj => ?_⟩
  · rcases List.mem_append.1 ha with h1 | h1
    · obtain ⟨e1, e2, e3, e4, e5⟩ := h.each a h1
      exact ⟨e1, e2, e3, e4, by omega⟩
    · rw [List.mem_singleton] at h1
      subst h1
      exact ⟨rfl, rfl, rfl, by show (0 : Int) ≤ (i : Int); omega, .inr ⟨rfl, by show (i : Int) < ((i + 1 : Nat) : Int); omega⟩⟩
  · rcases Nat.lt_or_eq_of_le (Nat.lt_succ_iff.1 hj) with h1 | rfl
    · obtain ⟨a, ha, e⟩ := h.all j h1
      exact ⟨a, List.mem_append_left _ ha, e⟩
    · exact ⟨_, List.mem_append_right _ (List.mem_singleton.2 rfl), rfl, rfl⟩
/-- the cells of the first rows, and of the first cells of the next one -/
def plRow (r n : Nat) : List GC := (List.range n).map fun j : Nat => ⟨r, j, 1, 1, j⟩
theorem plRow_succ (r n : Nat) : plRow r (n + 1) = plRow r n ++ [⟨r, n, 1, 1, n⟩] := by simp [plRow, List.range_succ]
theorem pl_rowTo {t : T} (hl : Low t) (hp : ∀ r ∈ t.rows, ∀ x ∈ r.cells, x.c = 1 ∧ x.r = 1) {r : Nat} (hr : r < t.rows.length) {gs : List GC} (h : PlG r 0 gs) (h5 : (t.rows.getD r dR).cells.length ≤ 5) : ∀ i, i ≤ (t.rows.getD r dR).cells.length →
    PlG r i (rowTo (endOf t r) r (t.rows.getD r dR).cells gs i) ∧ rowTo (endOf t r) r (t.rows.getD r dR).cells gs i = gs ++ plRow r i
  | 0, _ => ⟨h, by simp [rowTo, plRow]⟩
  | i + 1, hi => by
    obtain ⟨h1, h2⟩ := pl_rowTo hl hp hr h h5 i (by omega)
    have hm : (t.rows.getD r dR) ∈ t.rows := getD_mem' (d := dR) hr
    have hx : (t.rows.getD r dR).cells.getD i dC ∈ (t.rows.getD r dR).cells := getD_mem' (d := dC) (by omega)
    have hpl := plG_place h1 (by omega) (endOf_bounds hl hr).1 (hp _ hm _ hx)
    rw [rowTo, hpl]
    exact ⟨plG_next h1, by rw [h2, plRow_succ, List.append_assoc]⟩
theorem plG_row {r i : Nat} {gs : List GC} (h : PlG r i gs) : PlG (r + 1) 0 gs := by
  refine ⟨fun a ha => ?_, fun j hj => absurd hj (Nat.not_lt_zero _)⟩
  obtain ⟨e1, e2, e3, e4, e5⟩ := h.each a ha
  exact ⟨e1, e2, e3, e4, by omega⟩
theorem pl_gridTo {t : T} (hl : Low t) (hp : ∀ r ∈ t.rows, ∀ x ∈ r.cells, x.c = 1 ∧ x.r = 1) (h5 : ∀ r, (t.rows.getD r dR).cells.length ≤ 5) : ∀ r, r ≤ t.rows.length → PlG r 0 (gridTo t r)
  | 0, _ => ⟨fun a ha => absurd ha (List.not_mem_nil), fun j hj => absurd hj (Nat.not_lt_zero _)⟩
  | r + 1, hr => plG_row (pl_rowTo hl hp (by omega) (pl_gridTo hl hp h5 r (by omega)) (h5 r) _ (Nat.le_refl _)).1
theorem crossS_plain {gs : List GC} (h : ∀ a ∈ gs, a.rows = 1) (row : Int) : ∀ a ∈ gs, ¬ (a.row < row ∧ row < a.row + a.rows) := fun a ha hn => by
  have := h a ha
  omega
/-- how many columns a plain grid has: as the law reckons it -/
def mostTo (gs : List GC) (k : Nat) : Int := (gs.take k).foldl (fun m a => max m (a.ins + 1)) 1
theorem mostTo_zero (gs : List GC) : mostTo gs 0 = 1 := rfl
theorem mostTo_succ {gs : List GC} {k : Nat} (h : k < gs.length) : mostTo gs (k + 1) = max (mostTo gs k) ((gs.getD k dG).ins + 1) := by
  unfold mostTo
  rw [List.take_succ_eq_append_getElem h, List.foldl_append]
  have e : gs.getD k dG = gs[k] := by simp [List.getD, h]
  rw [e]
  rfl
theorem most_cols {gs : List GC} (h : ∀ a ∈ gs, a.cols = 1 ∧ a.col = a.ins) : ∀ m : Int, gs.foldl (fun m a => max m (a.ins + 1)) m = colsOf m gs := by
  induction gs with
  | nil => intro m; rfl
  | cons a l ih =>
    intro m
    have ha := h a (by simp)
    show l.foldl _ (max m (a.ins + 1)) = colsOf (max m (a.col + a.cols)) l
    rw [ih (fun b hb => h b (List.mem_cons_of_mem _ hb)), ha.1, ha.2]
end Go.Proofs.Ytggmjiddadjilal
