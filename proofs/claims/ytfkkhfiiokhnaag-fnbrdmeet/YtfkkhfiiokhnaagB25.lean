/-
  PROVED HERE: where each cell of a drawn table's grid stands: in its row, behind the one ahead of it, at the first column at which it is free; the grid is ok; it has as many cells as the table. Also: what stays all along a law over a table's grid: the table in its box, the grid in its own, both in memory. Also: what is known of each cell of a drawn table's grid. Also: the program's cellOf is a cell at its place in a drawn table; nothing that was in memory is turned. Also: which border is shown where two cells of a table meet, as a function of its grid. Also: a slot's cell is none, or one of the grid's.
-/
import Derived.Test.YtfkkhfiiokhnaagB5
import Derived.Test.YtfkkhfiiokhnaagB22
import Derived.Test.YtfkkhfiiokhnaagB17
import Derived.Test.YtfkkhfiiokhnaagB6
import Derived.Deep.DeepCutAuto
import Derived.Deep.RegionWith
import Derived.Deep.QuietTactic
import Derived.BigQuiet
namespace Go.Proofs.Ytfkkhfiiokhnaag

theorem getD_snoc_lt {α : Type} {l : List α} {x d : α} {k : Nat} (h : k < l.length) : (l ++ [x]).getD k d = l.getD k d := by
  simp [List.getD, List.getElem?_append_left h]
theorem getD_snoc_eq {α : Type} {l : List α} {x d : α} : (l ++ [x]).getD l.length d = x := by simp [List.getD]
theorem take_snoc_le {α : Type} {l : List α} {x : α} {k : Nat} (h : k ≤ l.length) : (l ++ [x]).take k = l.take k := by
  rw [List.take_append_of_le_length h]
theorem atCol_place (gs : List GC) (r i : Nat) (e : Int) (x : C) (c : Int) : atCol (place gs r i e x) c = atCol (bare r i e x) c := by simp only [place, atCol]
theorem col_place (gs : List GC) (r i : Nat) (e : Int) (x : C) : (place gs r i e x).col = (ffree gs (bare r i e x) : Int) := by simp only [place, atCol]
/-- of a cell of the grid: which one of the table it is; it stands as far ahead as may be; behind the one ahead of it -/
structure Laid (t : T) (gs : List GC) (k : Nat) : Prop where
  ex : ∃ r j : Nat, r < t.rows.length ∧ j < (t.rows.getD r dR).cells.length ∧ gs.getD k dG = place (gs.take k) r j (endOf t r) ((t.rows.getD r dR).cells.getD j dC)
  free : freeG (gs.take k) (gs.getD k dG) = true
  first : ∀ c : Nat, (c : Int) < (gs.getD k dG).col → freeG (gs.take k) (atCol (gs.getD k dG) c) = false
  after : 0 < k → (gs.getD (k - 1) dG).row < (gs.getD k dG).row ∨ (gs.getD (k - 1) dG).row = (gs.getD k dG).row ∧ (gs.getD (k - 1) dG).ins + 1 = (gs.getD k dG).ins
theorem Laid.snoc {t : T} {gs : List GC} {k : Nat} (x : GC) (hk : k < gs.length) (h : Laid t gs k) : Laid t (gs ++ [x]) k := by
  have e1 : (gs ++ [x]).getD k dG = gs.getD k dG := getD_snoc_lt hk
  have e2 : (gs ++ [x]).take k = gs.take k := take_snoc_le (by omega)
  have e3 : (gs ++ [x]).getD (k - 1) dG = gs.getD (k - 1) dG := getD_snoc_lt (by omega)
  refine ⟨?_, ?_, ?_, ?_⟩
  · rw [e1, e2]; exact h.ex
  · rw [e1, e2]; exact h.free
  · rw [e1, e2]; exact h.first
  · rw [e1, e3]; exact h.after
structure LaidTo (t : T) (gs : List GC) (r i : Nat) : Prop where
  part : Part t gs r i
  laid : ∀ k, k < gs.length → Laid t gs k
  last : 0 < gs.length → (gs.getD (gs.length - 1) dG).row < r ∨ (gs.getD (gs.length - 1) dG).row = r ∧ (gs.getD (gs.length - 1) dG).ins + 1 = i
theorem LaidTo.next {t : T} {gs : List GC} {r i : Nat} (h : LaidTo t gs r i) (hl : Low t) (hr : r < t.rows.length) (hi : i < (t.rows.getD r dR).cells.length) :
    LaidTo t (gs ++ [place gs r i (endOf t r) ((t.rows.getD r dR).cells.getD i dC)]) r (i + 1) := by
  obtain ⟨⟨h1, h2, h3, h4⟩, hp⟩ := h.part.next hl hr hi
  refine ⟨hp, ?_, ?_⟩
  · intro k hk
    rw [List.length_append, List.length_singleton] at hk
    by_cases hk2 : k < gs.length
    · exact (h.laid k hk2).snoc _ hk2
    · obtain rfl : k = gs.length := by omega
      have e2 : ∀ x : GC, (gs ++ [x]).take gs.length = gs := fun x => by rw [take_snoc_le (Nat.le_refl _), List.take_length]
      refine ⟨?_, ?_, ?_, ?_⟩
      · rw [getD_snoc_eq, e2]; exact ⟨r, i, hr, hi, rfl⟩
      · rw [getD_snoc_eq, e2]; exact h2
      · rw [getD_snoc_eq, e2]
        intro c hc
        rw [col_place] at hc
        rw [atCol_place]
        exact h3 c (Int.ofNat_lt.1 hc)
      · intro h0
        rw [getD_snoc_eq, getD_snoc_lt (by omega)]
        exact h.last h0
  · intro _
    rw [List.length_append, List.length_singleton, Nat.add_sub_cancel, getD_snoc_eq]
    refine .inr ⟨rfl, ?_⟩
    show (i : Int) + 1 = ((i + 1 : Nat) : Int)
    omega
theorem LaidTo.zero (t : T) : LaidTo t [] 0 0 := ⟨Part.zero t, fun _ hk => absurd hk (Nat.not_lt_zero _), fun h => absurd h (Nat.lt_irrefl _)⟩
theorem LaidTo.rowEnd {t : T} {gs : List GC} {r : Nat} (h : LaidTo t gs r (t.rows.getD r dR).cells.length) : LaidTo t gs (r + 1) 0 := by
  refine ⟨h.part.rowEnd, h.laid, fun h0 => .inl ?_⟩
  rcases h.last h0 with h1 | ⟨h1, _⟩ <;> omega
theorem laid_row {t : T} (hl : Low t) {r : Nat} (hr : r < t.rows.length) (h : LaidTo t (gridTo t r) r 0) : ∀ i, i ≤ (t.rows.getD r dR).cells.length → LaidTo t (rowTo (endOf t r) r (t.rows.getD r dR).cells (gridTo t r) i) r i
  | 0, _ => h
  | i + 1, hi => LaidTo.next (laid_row hl hr h i (by omega)) hl hr (by omega)
theorem laid_grid {t : T} (hl : Low t) : ∀ r, r ≤ t.rows.length → LaidTo t (gridTo t r) r 0
  | 0, _ => LaidTo.zero t
  | r + 1, hr => (laid_row hl (by omega) (laid_grid hl r (by omega)) _ (Nat.le_refl _)).rowEnd
theorem laid_of {t : T} (hl : Low t) {k : Nat} (hk : k < (gridOf t).length) : Laid t (gridOf t) k := (laid_grid hl _ (Nat.le_refl _)).laid k hk
theorem stands_of {t : T} (hl : Low t) {a : GC} (ha : a ∈ gridOf t) : Stands t.rows.length a := ((part_grid hl _ (Nat.le_refl _)).stands a ha).1
theorem gridTo_len (t : T) : ∀ r, r ≤ t.rows.length → (gridTo t r).length = cnTo t.rows r
  | 0, _ => by simp [gridTo, cnTo]
  | r + 1, hr => by rw [cnTo_succ (by omega), ← gridTo_len t r (by omega), gridTo, rowTo_len]
theorem gridOf_len (t : T) : (gridOf t).length = cnTo t.rows t.rows.length := gridTo_len t _ (Nat.le_refl _)
theorem colsOf_cons (m : Int) (a : GC) (gs : List GC) : colsOf m (a :: gs) = colsOf (max m (a.col + a.cols)) gs := rfl
theorem colsOf_ge : ∀ (gs : List GC) (m : Int), m ≤ colsOf m gs
  | [], m => Int.le_refl _
  | a :: gs, m => by rw [colsOf_cons]; exact Int.le_trans (Int.le_max_left _ _) (colsOf_ge gs _)
theorem colsOf_mem : ∀ {gs : List GC} {m : Int} {a : GC}, a ∈ gs → a.col + a.cols ≤ colsOf m gs
  | b :: gs, m, a, h => by
    rw [colsOf_cons]
    rcases List.mem_cons.1 h with rfl | h
    · exact Int.le_trans (Int.le_max_right _ _) (colsOf_ge gs _)
    · exact colsOf_mem h
theorem colsOf_le : ∀ {gs : List GC} {m B : Int}, m ≤ B → (∀ a ∈ gs, a.col + a.cols ≤ B) → colsOf m gs ≤ B
  | [], m, B, h, _ => h
  | a :: gs, m, B, h, h2 => by
    rw [colsOf_cons]
    exact colsOf_le (Int.max_le.2 ⟨h, h2 a (by simp)⟩) (fun b hb => h2 b (by simp [hb]))
theorem cols_bounds {t : T} (hl : Low t) (hc : t.cols.length ≤ 8) : 1 ≤ colsOf (max 1 (t.cols.length : Int)) (gridOf t) ∧ colsOf (max 1 (t.cols.length : Int)) (gridOf t) ≤ 88 ∧ (t.cols.length : Int) ≤ colsOf (max 1 (t.cols.length : Int)) (gridOf t) := by
  have h1 := colsOf_ge (gridOf t) (max 1 (t.cols.length : Int))
  have h2 : colsOf (max 1 (t.cols.length : Int)) (gridOf t) ≤ 88 := colsOf_le (by omega) (fun a ha => by have := stands_of hl ha; unfold Stands at this; omega)
  omega
theorem fits_stands {t : T} (hl : Low t) {a : GC} (ha : a ∈ gridOf t) : fitsB t.rows.length (colsOf (max 1 (t.cols.length : Int)) (gridOf t)) a = true := by
  have h1 := stands_of hl ha
  have h2 := colsOf_mem (m := max 1 (t.cols.length : Int)) ha
  unfold Stands at h1
  simp only [fitsB, inB, Bool.and_eq_true, decide_eq_true_eq]
  omega
theorem gridOf_ok {t : T} (hl : Low t) (hr : 1 ≤ t.rows.length) (hc : t.cols.length ≤ 8) : okB ⟨t.rows.length, colsOf (max 1 (t.cols.length : Int)) (gridOf t), gridOf t⟩ = true := by
  have hb := cols_bounds hl hc
  have h8 := hl.rows
  have hlen := grid_len hl t.rows.length
  unfold okB
  rw [Bool.and_eq_true]
  constructor
  · refine bounds_intro ?_ ?_ ?_
    · simp [inB]; omega
    · simp [inB]; omega
    · show (gridTo t t.rows.length).length ≤ 40
      omega
  · refine List.all_eq_true.2 (fun i hi => ?_)
    have hi : i < (gridOf t).length := List.mem_range.1 hi
    rw [Bool.and_eq_true]
    exact ⟨fits_stands hl (getD_mem' hi), (laid_of hl hi).free⟩
end Go.Proofs.Ytfkkhfiiokhnaag
namespace Go.Proofs.Ytfkkhfiiokhnaag
open Go.RowKit

theorem vB {a b : Bool} (h : a = b) : Value.bool a = .bool b := by rw [h]
/-- the table, its two slices at hand -/
def TA (w : World) (z : Nat) (ac ar : Option Addr) (cc cr : Nat) (t : T) : Prop := ColsAt w z (.slice ac t.cols.length cc) t.cols ∧ RowsAt w z (.slice ar t.rows.length cr) t.rows
theorem TA.kept {w w' : World} {z : Nat} {ac ar : Option Addr} {cc cr : Nat} {t : T} (h : TA w z ac ar cc cr t) (hb : Below w.heap.size w w') : TA w' z ac ar cc cr t := ⟨h.1.kept hb, h.2.kept hb⟩
/-- what stays all along -/
def St (w : World) (tb : Nat) (ac ar : Option Addr) (cc cr : Nat) (t : T) (W : World) : Prop := Below w.heap.size w W ∧ TA W w.heap.size ac ar cc cr t ∧ W.heap[tb]? = some (.cells #[.slice ac t.cols.length cc, .int .i64 t.head, .int .i64 t.foot, .slice ar t.rows.length cr, .int .i64 t.gap] 49)
theorem St.kept {w W W' : World} {tb : Nat} {ac ar : Option Addr} {cc cr : Nat} {t : T} (h : St w tb ac ar cc cr t W) (hb : Below W.heap.size W W') : St w tb ac ar cc cr t W' :=
  ⟨h.1.trans (hb.mono h.1.size), h.2.1.kept hb, (hb.block tb (Array.getElem?_eq_some_iff.1 h.2.2).1).trans h.2.2⟩
theorem St.at {w W : World} {tb : Nat} {ac ar : Option Addr} {cc cr : Nat} {t : T} (h : St w tb ac ar cc cr t W) : (W.cell? ⟨tb, 0, none⟩ = some (.slice ac t.cols.length cc) ∧ W.cell? ⟨tb, 1, none⟩ = some (.int .i64 t.head) ∧ W.cell? ⟨tb, 2, none⟩ = some (.int .i64 t.foot) ∧ W.cell? ⟨tb, 3, none⟩ = some (.slice ar t.rows.length cr) ∧ W.cell? ⟨tb, 4, none⟩ = some (.int .i64 t.gap)) := (fiveZ h.2.2).1
/-- the grid's cells are numbers -/
theorem gOf_gok {t : T} (hD : Drawn t) : ∀ x ∈ (gOf t).cells, GOk x := by
  unfold gOf
  split
  · rename_i h
    have hl := low_of h hD
    exact fun x hx => (stands_of hl hx).gok hl.rows
  · intro x hx
    cases hx
def SGr (w : World) (tb gb : Nat) (ac ar : Option Addr) (cc cr : Nat) (t : T) (ag : Option Addr) (cg : Nat) (W : World) : Prop :=
  St w tb ac ar cc cr t W ∧ GsAt W w.heap.size (.slice ag (gOf t).cells.length cg) (gOf t).cells ∧ W.heap[gb]? = some (.cells #[.int .i64 (gOf t).rows, .int .i64 (gOf t).cols, .slice ag (gOf t).cells.length cg] 56)
theorem SGr.kept {w W W' : World} {tb gb : Nat} {ac ar ag : Option Addr} {cc cr cg : Nat} {t : T} (h : SGr w tb gb ac ar cc cr t ag cg W) (hb : Below W.heap.size W W') : SGr w tb gb ac ar cc cr t ag cg W' :=
  ⟨h.1.kept hb, h.2.1.kept hb, (hb.block gb (Array.getElem?_eq_some_iff.1 h.2.2).1).trans h.2.2⟩
theorem SGr.at {w W : World} {tb gb : Nat} {ac ar ag : Option Addr} {cc cr cg : Nat} {t : T} (h : SGr w tb gb ac ar cc cr t ag cg W) : W.cell? ⟨gb, 0, none⟩ = some (.int .i64 (gOf t).rows) ∧ W.cell? ⟨gb, 1, none⟩ = some (.int .i64 (gOf t).cols) ∧ W.cell? ⟨gb, 2, none⟩ = some (.slice ag (gOf t).cells.length cg) :=
  ⟨cellB h.2.2, cellB h.2.2, cellB h.2.2⟩
theorem own_slice {w : World} {base : Nat} {v : Value} {gs : List GC} (h : OwnG w base v gs) : ∃ a cap, v = .slice a gs.length cap := by
  rcases h.2 with ⟨rfl, hn⟩ | ⟨g, cap, cur, rfl, _⟩
  · exact ⟨none, 0, by rw [hn]⟩
  · exact ⟨_, cap, rfl⟩
theorem gOf_ok {t : T} (h : tblB t = true) : gOf t = ⟨t.rows.length, colsOf (max 1 (t.cols.length : Int)) (gridOf t), gridOf t⟩ := by unfold gOf; rw [if_pos h]
theorem gOf_no {t : T} (h : tblB t = false) : gOf t = ⟨0, 0, []⟩ := by unfold gOf; rw [if_neg (by rw [h]; simp)]
/-- and a cell in its box -/
def SCe (w : World) (tb gb cb : Nat) (ac ar : Option Addr) (cc cr : Nat) (t : T) (ag : Option Addr) (cg : Nat) (x : GC) (W : World) : Prop :=
  SGr w tb gb ac ar cc cr t ag cg W ∧ W.heap[cb]? = some (.cells #[.int .i64 x.row, .int .i64 x.col, .int .i64 x.rows, .int .i64 x.cols, .int .i64 x.ins] 27)
theorem SCe.kept {w W W' : World} {tb gb cb : Nat} {ac ar ag : Option Addr} {cc cr cg : Nat} {t : T} {x : GC} (h : SCe w tb gb cb ac ar cc cr t ag cg x W) (hb : Below W.heap.size W W') : SCe w tb gb cb ac ar cc cr t ag cg x W' :=
  ⟨h.1.kept hb, (hb.block cb (Array.getElem?_eq_some_iff.1 h.2).1).trans h.2⟩
theorem SCe.at {w W : World} {tb gb cb : Nat} {ac ar ag : Option Addr} {cc cr cg : Nat} {t : T} {x : GC} (h : SCe w tb gb cb ac ar cc cr t ag cg x W) : W.cell? ⟨cb, 0, none⟩ = some (.int .i64 x.row) ∧ W.cell? ⟨cb, 1, none⟩ = some (.int .i64 x.col) ∧ W.cell? ⟨cb, 2, none⟩ = some (.int .i64 x.rows) ∧ W.cell? ⟨cb, 3, none⟩ = some (.int .i64 x.cols) ∧ W.cell? ⟨cb, 4, none⟩ = some (.int .i64 x.ins) :=
  ⟨cellB h.2, cellB h.2, cellB h.2, cellB h.2, cellB h.2⟩
/-- small numbers -/
def Small (x : GC) : Prop := (0 ≤ x.row ∧ x.row ≤ 8) ∧ (0 ≤ x.col ∧ x.col ≤ 84) ∧ (1 ≤ x.rows ∧ x.rows ≤ 3) ∧ (1 ≤ x.cols ∧ x.cols ≤ 4) ∧ 0 ≤ x.ins ∧ x.ins ≤ 4
theorem Stands.small {n : Nat} {a : GC} (hn : n ≤ 8) (h : Stands n a) : Small a := by
  unfold Stands at h
  unfold Small
  omega
end Go.Proofs.Ytfkkhfiiokhnaag
namespace Go.Proofs.Ytfkkhfiiokhnaag
open Go.RowKit

/-- what is known of a cell -/
structure Cel (t : T) (C : Nat) (x : GC) : Prop where
  ex : ∃ rn jn cn mn : Nat, x.row = rn ∧ x.ins = jn ∧ x.col = cn ∧ x.cols = mn ∧ rn < t.rows.length ∧ jn < (t.rows.getD rn dR).cells.length ∧ cn + mn ≤ C ∧ 1 ≤ mn ∧ mn ≤ 4
  gap : 0 ≤ t.gap ∧ t.gap ≤ 3
  rows : 0 ≤ x.rows ∧ x.rows ≤ 8
theorem cel_of {t : T} (hD : Drawn t) : (gOf t).cells.length ≤ 40 ∧ ∃ C : Nat, (gOf t).cols = C ∧ C ≤ 88 ∧ ∀ k, k < (gOf t).cells.length → Cel t C ((gOf t).cells.getD k dG) := by
  cases h : tblB t with
  | false => rw [gOf_no h]; exact ⟨by simp, 0, rfl, by omega, fun k hk => absurd hk (Nat.not_lt_zero _)⟩
  | true =>
    have hl := low_of h hD
    have h8 := hl.rows
    have h40 := grid_len hl t.rows.length
    have hg : 0 ≤ t.gap ∧ t.gap ≤ 3 := by
      simp only [tblB, inB, Bool.and_eq_true, decide_eq_true_eq] at h
      exact h.2.2.1
    have hc : t.cols.length ≤ 8 := by
      simp only [tblB, colsB, Bool.and_eq_true, decide_eq_true_eq] at h
      omega
    have hcb := cols_bounds hl hc
    rw [gOf_ok h]
    refine ⟨by show (gridTo t t.rows.length).length ≤ 40; omega, (colsOf (max 1 (t.cols.length : Int)) (gridOf t)).toNat, by show colsOf (max 1 (t.cols.length : Int)) (gridOf t) = _; omega, by omega, fun k hk => ⟨?_, hg, ?_⟩⟩
    · have hk' : k < (gridOf t).length := hk
      obtain ⟨r, j, hr, hj, e⟩ := (laid_of hl hk').ex
      have hst := stands_of hl (getD_mem' (d := dG) hk')
      have hm := colsOf_mem (m := max 1 (t.cols.length : Int)) (getD_mem' (d := dG) hk')
      have e1 : ((gridOf t).getD k dG).row = r := by rw [e]; rfl
      have e2 : ((gridOf t).getD k dG).ins = j := by rw [e]; rfl
      unfold Stands at hst
      show ∃ rn jn cn mn : Nat, ((gridOf t).getD k dG).row = rn ∧ ((gridOf t).getD k dG).ins = jn ∧ ((gridOf t).getD k dG).col = cn ∧ ((gridOf t).getD k dG).cols = mn ∧ _
      refine ⟨r, j, ((gridOf t).getD k dG).col.toNat, ((gridOf t).getD k dG).cols.toNat, e1, e2, by omega, by omega, hr, hj, by omega, by omega, by omega⟩
    · have hk' : k < (gridOf t).length := hk
      have hst := stands_of hl (getD_mem' (d := dG) hk')
      unfold Stands at hst
      show 0 ≤ ((gridOf t).getD k dG).rows ∧ ((gridOf t).getD k dG).rows ≤ 8
      omega
end Go.Proofs.Ytfkkhfiiokhnaag
namespace Go.Proofs.Ytfkkhfiiokhnaag
open Go.RowKit Go.BigFrame

/-- a cell of a grid, as it stands in its table -/
def cellAt (t : T) (x : GC) : C := (t.rows.getD x.row.toNat dR).cells.getD x.ins.toNat dC
set_option maxRecDepth 100000 in
set_option maxHeartbeats 2000000 in
theorem implcellOf (ac ar : Option Addr) (cc cr : Nat) (t : T) (x : GC) {C : Nat} (hx : Cel t C x) (w : World) {z : Nat} (hr : RowsAt w z (.slice ar t.rows.length cr) t.rows) :
    Calls Try.prog 84 #[.agg #[.slice ac t.cols.length cc, .int .i64 t.head, .int .i64 t.foot, .slice ar t.rows.length cr, .int .i64 t.gap], .agg #[.int .i64 x.row, .int .i64 x.col, .int .i64 x.rows, .int .i64 x.cols, .int .i64 x.ins]] w fun e w' => e = .returned (.agg #[.string (cellAt t x).s, .int .i64 (cellAt t x).c, .int .i64 (cellAt t x).r, .int .i64 (cellAt t x).a1, .int .i64 (cellAt t x).b1, .int .i64 (cellAt t x).a2, .int .i64 (cellAt t x).b2, .int .i64 (cellAt t x).a3, .int .i64 (cellAt t x).b3, .int .i64 (cellAt t x).a4, .int .i64 (cellAt t x).b4]) ∧ (cellAt t x).s.size ≤ maxLen ∧ Below w.heap.size w w' := by
  obtain ⟨rn, jn, cn, mn, e1, e2, e3, e4, h1, h2, h3, h4, h5⟩ := hx.ex
  have HTx : Hid (cellAt t x = (t.rows.getD rn dR).cells.getD jn dC) := by rw [Hid, cellAt, e1, e2, Int.toNat_natCast, Int.toNat_natCast]
  have hmx : Try.prog.follows .mixedOrders = true := by kernel_rfl
  have K1 := k_alloc (Below.refl w.heap.size w) (.cells #[.slice ac t.cols.length cc, .int .i64 t.head, .int .i64 t.foot, .slice ar t.rows.length cr, .int .i64 t.gap] 49)
  have X1 := newestB w (.cells #[.slice ac t.cols.length cc, .int .i64 t.head, .int .i64 t.foot, .slice ar t.rows.length cr, .int .i64 t.gap] 49)
  have hs1 : (w.alloc (.cells #[.slice ac t.cols.length cc, .int .i64 t.head, .int .i64 t.foot, .slice ar t.rows.length cr, .int .i64 t.gap] 49)).heap.size = w.heap.size + 1 := by simp
  rw [e1, e2]
  clear e1 e2 e3 e4
  go_enter Try.func84, Try.ntmps84
  go_upto_region 1 with fail
  have K2 := k_alloc K1 (.cells #[.int .i64 (rn : Int), .int .i64 x.col, .int .i64 x.rows, .int .i64 x.cols, .int .i64 (jn : Int)] 27)
  have X2 := newestB (w.alloc (.cells #[.slice ac t.cols.length cc, .int .i64 t.head, .int .i64 t.foot, .slice ar t.rows.length cr, .int .i64 t.gap] 49)) (.cells #[.int .i64 (rn : Int), .int .i64 x.col, .int .i64 x.rows, .int .i64 x.cols, .int .i64 (jn : Int)] 27)
  have X1' := (Below.heap_alloc (w.alloc (.cells #[.slice ac t.cols.length cc, .int .i64 t.head, .int .i64 t.foot, .slice ar t.rows.length cr, .int .i64 t.gap] 49)) (.cells #[.int .i64 (rn : Int), .int .i64 x.col, .int .i64 x.rows, .int .i64 x.cols, .int .i64 (jn : Int)] 27) w.heap.size (by omega)).trans X1
  rw [hs1] at X2
  have hs2 : ((w.alloc (.cells #[.slice ac t.cols.length cc, .int .i64 t.head, .int .i64 t.foot, .slice ar t.rows.length cr, .int .i64 t.gap] 49)).alloc (.cells #[.int .i64 (rn : Int), .int .i64 x.col, .int .i64 x.rows, .int .i64 x.cols, .int .i64 (jn : Int)] 27)).heap.size = w.heap.size + 2 := by simp
  generalize (w.alloc (.cells #[.slice ac t.cols.length cc, .int .i64 t.head, .int .i64 t.foot, .slice ar t.rows.length cr, .int .i64 t.gap] 49)).alloc (.cells #[.int .i64 (rn : Int), .int .i64 x.col, .int .i64 x.rows, .int .i64 x.cols, .int .i64 (jn : Int)] 27) = W2 at K2 X2 X1' hs2 ⊢
  have K3 := k_alloc K2 (.cells #[.string ⟨#[]⟩, .int .i64 0, .int .i64 0, .int .i64 0, .int .i64 0, .int .i64 0, .int .i64 0, .int .i64 0, .int .i64 0, .int .i64 0, .int .i64 0] 89)
  have X3 := newestB W2 (.cells #[.string ⟨#[]⟩, .int .i64 0, .int .i64 0, .int .i64 0, .int .i64 0, .int .i64 0, .int .i64 0, .int .i64 0, .int .i64 0, .int .i64 0, .int .i64 0] 89)
  have X1'' := (Below.heap_alloc W2 (.cells #[.string ⟨#[]⟩, .int .i64 0, .int .i64 0, .int .i64 0, .int .i64 0, .int .i64 0, .int .i64 0, .int .i64 0, .int .i64 0, .int .i64 0, .int .i64 0] 89) w.heap.size (by omega)).trans X1'
  have X2' := (Below.heap_alloc W2 (.cells #[.string ⟨#[]⟩, .int .i64 0, .int .i64 0, .int .i64 0, .int .i64 0, .int .i64 0, .int .i64 0, .int .i64 0, .int .i64 0, .int .i64 0, .int .i64 0] 89) (w.heap.size + 1) (by omega)).trans X2
  rw [show W2.heap.size = w.heap.size + 1 + 1 by omega] at X3
  generalize W2.alloc (.cells #[.string ⟨#[]⟩, .int .i64 0, .int .i64 0, .int .i64 0, .int .i64 0, .int .i64 0, .int .i64 0, .int .i64 0, .int .i64 0, .int .i64 0, .int .i64 0] 89) = W at K3 X3 X1'' X2' ⊢
  clear K1 X1 hs1 K2 X2 X1' hs2
  obtain ⟨rb, roff, rcap, re, rc1, rc2, rbl, u, hu0, _, hu⟩ := At.get (hr.kept K3) h1
  simp only [Value.slice.injEq, true_and] at re
  obtain ⟨rfl, rfl⟩ := re
  obtain ⟨qb, qoff, qcap, qe, qc1, qc2, qbl, hv, hsl⟩ := At.get hu h2
  subst qe
  obtain ⟨v0, v1, v2, v3, v4, v5, v6, v7, v8, v9, v10⟩ := hv
  have l1 : w.heap.size < W.heap.size := (Array.getElem?_eq_some_iff.1 X1'').1
  have l2 : w.heap.size + 1 < W.heap.size := (Array.getElem?_eq_some_iff.1 X2').1
  have hne := bw_some W
  have m0 := bw_cell (a := ⟨w.heap.size, 3, none⟩) l1 (cellB (p := 3) X1'')
  have m1 := bw_cell (a := ⟨w.heap.size + 1, 0, none⟩) l2 (cellB (p := 0) X2')
  have m2 := bw_cell (a := ⟨w.heap.size + 1, 4, none⟩) l2 (cellB (p := 4) X2')
  have m3 := bw_cell rbl hu0
  have n0 := bw_cell qbl v0
  have n1 := bw_cell qbl v1
  have n2 := bw_cell qbl v2
  have n3 := bw_cell qbl v3
  have n4 := bw_cell qbl v4
  have n5 := bw_cell qbl v5
  have n6 := bw_cell qbl v6
  have n7 := bw_cell qbl v7
  have n8 := bw_cell qbl v8
  have n9 := bw_cell qbl v9
  have n10 := bw_cell qbl v10
  have HSZ : Hid ((cellAt t x).s.size ≤ maxLen) := by rw [Hid, HTx.out]; exact hsl
  have HK := Hid.intro K3
  have HX3 := Hid.intro X3
  unfold maxLen at rc2 qc2
  generalize (t.rows.getD rn dR).cells.getD jn dC = y at *
  generalize (t.rows.getD rn dR).cells.length = rl at h2 m3 qc1
  clear hu hu0 hr h3 h4 h5 hx K3 X3 X1'' X2' v0 v1 v2 v3 v4 v5 v6 v7 v8 v9 v10 hsl
  refine wp_region_last 11 hmx (by rfl) (by rfl) (by kernel_rfl) (by kernel_rfl) ?_
  simp only [List.take_succ_cons, List.take_zero]
  repeat (go_big_quiet_step (fail))
  refine wpQuiet_nil ?_
  intro W5 hw'
  obtain ⟨⟨Wx, hW5⟩, hw''⟩ := hw'
  subst hw''
  have l3 : w.heap.size + 1 + 1 < W.heap.size := (Array.getElem?_eq_some_iff.1 HX3.out).1
  have X5 := (hW5.block _ l3).trans HX3.out
  obtain ⟨⟨c0, c1, c2, c3, c4, c5, c6, c7, c8, c9, c10⟩, f0, f1, f2, f3, f4, f5, f6, f7, f8, f9, f10⟩ := cells11 X5
  have HK5 := Hid.intro (k_trans HK.out hW5)
  clear m0 m1 m2 m3 n0 n1 n2 n3 n4 n5 n6 n7 n8 n9 n10 hne hW5 X5
  rw [if_pos (by rfl)]
  go_simp
  go_wp2
  exact bodyPost_ret (v := .agg #[.string y.s, .int .i64 y.c, .int .i64 y.r, .int .i64 y.a1, .int .i64 y.b1, .int .i64 y.a2, .int .i64 y.b2, .int .i64 y.a3, .int .i64 y.b3, .int .i64 y.a4, .int .i64 y.b4]) (by simp [results, Try.results84, go_sem, c0, c1, c2, c3, c4, c5, c6, c7, c8, c9, c10]) rfl ⟨by rw [HTx.out], HSZ.out, HK5.out.trans ((st11_bk W5 (w.heap.size + 1 + 1) (.string y.s) (.int .i64 y.c) (.int .i64 y.r) (.int .i64 y.a1) (.int .i64 y.b1) (.int .i64 y.a2) (.int .i64 y.b2) (.int .i64 y.a3) (.int .i64 y.b3) (.int .i64 y.a4) (.int .i64 y.b4)).below HK5.out.size (by omega))⟩
end Go.Proofs.Ytfkkhfiiokhnaag
namespace Go.Proofs.Ytfkkhfiiokhnaag
open Go.RowKit

/-- the number of the cell that has a slot, or -1 -/
def atN (t : T) (r c : Int) : Int := findTo (holdsB r c) (gOf t).cells
/-- that cell, or none -/
def cellN (t : T) (i : Int) : C := if i < 0 then dC else cellAt t ((gOf t).cells.getD i.toNat dG)
def meetF (x y : Fr) : Fr := if x.c = y.c then dF else if x.c < 0 then y else if y.c < 0 then x else if btF y x = true then y else x
def acrossF (t : T) (r c : Int) : Fr := meetF ⟨(cellN t (atN t (r - 1) c)).a3, (cellN t (atN t (r - 1) c)).b3, atN t (r - 1) c⟩ ⟨(cellN t (atN t r c)).a1, (cellN t (atN t r c)).b1, atN t r c⟩
def besideF (t : T) (r c : Int) : Fr := meetF ⟨(cellN t (atN t r (c - 1))).a2, (cellN t (atN t r (c - 1))).b2, atN t r (c - 1)⟩ ⟨(cellN t (atN t r c)).a4, (cellN t (atN t r c)).b4, atN t r c⟩
theorem best_none : bestF [] = dF := rfl
theorem best_one (x : Fr) : bestF [x] = x := rfl
theorem best_two (x y : Fr) : bestF [x, y] = if btF y x = true then y else x := rfl
end Go.Proofs.Ytfkkhfiiokhnaag
namespace Go.Proofs.Ytfkkhfiiokhnaag
open Go.RowKit

theorem at_is (t : T) (r c : Int) : atN t r c = -1 ∨ ∃ k : Nat, atN t r c = k ∧ k < (gOf t).cells.length := by
  unfold atN findTo
  split
  · rename_i k h
    exact .inr ⟨k, rfl, (List.findIdx?_eq_some_iff_getElem.1 h).1⟩
  · exact .inl rfl
theorem row_below {w w' : World} {base : Nat} {e : TypeId} {sz : Nat} {v : Value} {m : Nat} {xs : List Value} (h : w.ownsRow base e sz v m xs) (k : Below w.heap.size w w') : w'.ownsRow base e sz v m xs := by
  refine ⟨h.1, ?_⟩
  rcases h.2 with h | ⟨g, cap, cur, hv, hb, hg, r⟩
  · exact .inl h
  · exact .inr ⟨g, cap, cur, hv, hb, (k.block g (Array.getElem?_eq_some_iff.1 hg).1).trans hg, r⟩
end Go.Proofs.Ytfkkhfiiokhnaag
