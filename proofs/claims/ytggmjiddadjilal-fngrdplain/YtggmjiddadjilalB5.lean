/-
  PROVED HERE: how a drawn table's cells are put at their places, row by row, each at the first column at which it is free: each finds it ahead of the 85th, since no more than twelve cells have a row in common with it and each shuts seven columns at most. Also: a region that draws its order, whose own operations only read and whose callees turn nothing that was in memory, may be walked once, in its text's order. Also: what the model's l3Meets and l3Free answer; nothing that was in memory is turned. Also: small laws on rows that a call owns, whatever their elements are. Also: what is as it was but one block, for the other texts of this claim.
-/
import Derived.Test.YtggmjiddadjilalB4
import Derived.Test.YtggmjiddadjilalB1
import Derived.Deep.QuietTactic
import Derived.BigQuiet
import Derived.Laws.AppendOwn
import Derived.Lib.SmallJoins
namespace Go.Proofs.Ytggmjiddadjilal

/-- an interval of seven shuts no more than seven columns -/
theorem cnt7 (l : Int) (N : Nat) : (((List.range N).countP (fun c : Nat => decide (l ≤ (c : Int) ∧ (c : Int) < l + 7)) : Nat) : Int) ≤ max 0 (min 7 (N - l)) := by
  induction N with
  | zero => simp; omega
  | succ N ih =>
    rw [List.range_succ, List.countP_append, List.countP_cons, List.countP_nil]
    by_cases h : l ≤ (N : Int) ∧ (N : Int) < l + 7
    · rw [if_pos (decide_eq_true h)]; omega
    · rw [if_neg (by simpa using h)]; omega
theorem countP_or {α : Type} (p q : α → Bool) (l : List α) : l.countP (fun x => p x || q x) ≤ l.countP p + l.countP q := by
  induction l with
  | nil => simp
  | cons a t ih =>
    rw [List.countP_cons, List.countP_cons, List.countP_cons]
    cases p a <;> cases q a <;> simp <;> omega
theorem shut_cnt (N : Nat) : ∀ ls : List Int, (List.range N).countP (fun c : Nat => ls.any fun l => decide (l ≤ (c : Int) ∧ (c : Int) < l + 7)) ≤ 7 * ls.length
  | [] => by simp
  | l :: t => by
    have h1 := shut_cnt N t
    have h2 := cnt7 l N
    have h3 := countP_or (fun c : Nat => decide (l ≤ (c : Int) ∧ (c : Int) < l + 7)) (fun c : Nat => t.any fun l => decide (l ≤ (c : Int) ∧ (c : Int) < l + 7)) (List.range N)
    simp only [List.any_cons, List.length_cons]
    omega
theorem shut_some (ls : List Int) : ∃ c : Nat, c ≤ 7 * ls.length ∧ ∀ l ∈ ls, ¬ (l ≤ (c : Int) ∧ (c : Int) < l + 7) := by
  apply Classical.byContradiction
  intro hn
  have hall : ∀ c ∈ List.range (7 * ls.length + 1), (ls.any fun l => decide (l ≤ (c : Int) ∧ (c : Int) < l + 7)) = true := by
    intro c hc
    rw [List.mem_range] at hc
    apply Classical.byContradiction
    intro h
    refine hn ⟨c, by omega, fun l hl h2 => h ?_⟩
    exact List.any_eq_true.2 ⟨l, hl, decide_eq_true h2⟩
  have h1 := List.countP_eq_length.2 hall
  have h2 := shut_cnt (7 * ls.length + 1) ls
  rw [List.length_range] at h1
  omega
/-- a cell at another column -/
def atCol (x : GC) (c : Int) : GC := ⟨x.row, c, x.rows, x.cols, x.ins⟩
/-- whether two cells have a row in common -/
def rowMeets (a x : GC) : Bool := decide (a.row < x.row + x.rows) && decide (x.row < a.row + a.rows)
theorem free_exists (gs : List GC) (x : GC) (hx : 1 ≤ x.cols ∧ x.cols ≤ 4) (hg : ∀ a ∈ gs, 1 ≤ a.cols ∧ a.cols ≤ 4) : ∃ c : Nat, c ≤ 7 * (gs.filter fun a => rowMeets a x).length ∧ freeG gs (atCol x c) = true := by
  obtain ⟨c, h1, h2⟩ := shut_some ((gs.filter fun a => rowMeets a x).map fun a => a.col - x.cols + 1)
  rw [List.length_map] at h1
  refine ⟨c, h1, List.all_eq_true.2 fun a ha => ?_⟩
  cases hm : meetsB a (atCol x c) with
  | false => rfl
  | true =>
    exfalso
    unfold meetsB atCol at hm
    simp only [Bool.and_eq_true, decide_eq_true_eq] at hm
    have hc := hg a ha
    refine h2 (a.col - x.cols + 1) (List.mem_map.2 ⟨a, List.mem_filter.2 ⟨ha, ?_⟩, rfl⟩) (by omega)
    simp only [rowMeets, Bool.and_eq_true, decide_eq_true_eq]
    omega
/-- the first column, of so many, at which a cell is free -/
def ffreeN (N : Nat) (gs : List GC) (x : GC) : Nat := (List.range N).findIdx (fun c : Nat => freeG gs (atCol x c))
theorem ffreeN_le {N : Nat} {gs : List GC} {x : GC} {c : Nat} (hc : c < N) (h : freeG gs (atCol x c) = true) : ffreeN N gs x ≤ c ∧ freeG gs (atCol x (ffreeN N gs x)) = true ∧ ∀ k, k < ffreeN N gs x → freeG gs (atCol x (k : Nat)) = false := by
  have hl : ffreeN N gs x < (List.range N).length := List.findIdx_lt_length_of_exists ⟨c, List.mem_range.2 hc, h⟩
  have hno : ∀ k, k < ffreeN N gs x → freeG gs (atCol x (k : Nat)) = false := by
    intro k hk
    have := List.not_of_lt_findIdx (p := fun c : Nat => freeG gs (atCol x c)) (xs := List.range N) hk
    simpa using this
  refine ⟨?_, ?_, hno⟩
  · apply Classical.byContradiction
    intro hn
    have := hno c (by omega)
    rw [h] at this
    cases this
  · have e : (List.range N)[ffreeN N gs x]'hl = ffreeN N gs x := List.getElem_range hl
    have h1 : freeG gs (atCol x (((List.range N)[ffreeN N gs x]'hl : Nat) : Int)) = true := List.findIdx_getElem (p := fun c : Nat => freeG gs (atCol x c)) (xs := List.range N) (w := hl)
    rw [e] at h1
    exact h1
/-- the first column at which a cell is free -/
def ffree (gs : List GC) (x : GC) : Nat := ffreeN 1000 gs x
theorem ffree_le {gs : List GC} {x : GC} {c : Nat} (hc : c < 1000) (h : freeG gs (atCol x c) = true) : ffree gs x ≤ c ∧ freeG gs (atCol x (ffree gs x)) = true ∧ ∀ k, k < ffree gs x → freeG gs (atCol x (k : Nat)) = false := ffreeN_le hc h
/-- the row behind the part of a row -/
def endOf (t : T) (r : Nat) : Int := if (r : Int) < t.head then t.head else if (t.rows.length : Int) - t.foot ≤ r then t.rows.length else t.rows.length - t.foot
/-- a cell in its row, its column not yet known -/
def bare (r i : Nat) (e : Int) (x : C) : GC := ⟨r, 0, min x.r (e - r), x.c, i⟩
/-- a cell put at its place -/
def place (gs : List GC) (r i : Nat) (e : Int) (x : C) : GC := atCol (bare r i e x) (ffree gs (bare r i e x))
/-- the first cells of a row put at their places -/
def rowTo (e : Int) (r : Nat) (cs : List C) (gs : List GC) : Nat → List GC
  | 0 => gs
  | i + 1 => rowTo e r cs gs i ++ [place (rowTo e r cs gs i) r i e (cs.getD i dC)]
/-- the cells of the first rows put at their places -/
def gridTo (t : T) : Nat → List GC
  | 0 => []
  | r + 1 => rowTo (endOf t r) r (t.rows.getD r dR).cells (gridTo t r) (t.rows.getD r dR).cells.length
/-- how many columns there are -/
def colsOf (m : Int) (gs : List GC) : Int := gs.foldl (fun m a => max m (a.col + a.cols)) m
theorem colsOf_snoc (m : Int) (gs : List GC) (x : GC) : colsOf m (gs ++ [x]) = max (colsOf m gs) (x.col + x.cols) := by simp [colsOf]
/-- what a drawn table's cells are, where it is ok: few, over no more than three rows -/
structure Low (t : T) : Prop where
  rows : t.rows.length ≤ 8
  span : ∀ r ∈ t.rows, ∀ x ∈ r.cells, (1 ≤ x.c ∧ x.c ≤ 4) ∧ 1 ≤ x.r ∧ x.r ≤ 3
  few : ∃ k, ∀ i, (t.rows.getD i dR).cells.length ≤ if i = k then 5 else 4
  head : 0 ≤ t.head ∧ t.head ≤ t.rows.length
  foot : 0 ≤ t.foot ∧ t.head + t.foot ≤ t.rows.length
/-- a cell that stands in a grid of a drawn table -/
def Stands (n : Nat) (a : GC) : Prop := (0 ≤ a.row ∧ 1 ≤ a.rows ∧ a.rows ≤ 3 ∧ a.row + a.rows ≤ n) ∧ (0 ≤ a.col ∧ a.col ≤ 84) ∧ (1 ≤ a.cols ∧ a.cols ≤ 4) ∧ 0 ≤ a.ins ∧ a.ins ≤ 4
theorem endOf_bounds {t : T} (h : Low t) {r : Nat} (hr : r < t.rows.length) : (r : Int) < endOf t r ∧ endOf t r ≤ t.rows.length := by
  have h1 := h.head
  have h2 := h.foot
  unfold endOf
  split
  · omega
  · split <;> omega
/-- how many of the first rows' cells have a row -/
def cntRow (gs : List GC) (q : Int) : Nat := gs.countP fun a => decide (a.row = q)
theorem cntRow_snoc (gs : List GC) (x : GC) (q : Int) : cntRow (gs ++ [x]) q = cntRow gs q + if x.row = q then 1 else 0 := by
  simp [cntRow, List.countP_append, List.countP_cons]
/-- cells that have a row in common with one in row r begin in row r or one of the two above -/
theorem meet_cnt (r : Nat) (x : GC) (hx : x.row = r) : ∀ gs : List GC, (∀ a ∈ gs, a.row ≤ r ∧ a.rows ≤ 3) → (gs.filter fun a => rowMeets a x).length ≤ cntRow gs r + (cntRow gs ((r : Int) - 1) + cntRow gs ((r : Int) - 2))
  | [], _ => by simp
  | a :: t, h => by
    have ih := meet_cnt r x hx t (fun b hb => h b (by simp [hb]))
    have ha := h a (by simp)
    unfold cntRow at ih ⊢
    rw [List.countP_cons, List.countP_cons, List.countP_cons, List.filter_cons]
    split
    · rename_i hm
      simp only [rowMeets, Bool.and_eq_true, decide_eq_true_eq] at hm
      rw [List.length_cons]
      rcases (by omega : a.row = r ∨ a.row = (r : Int) - 1 ∨ a.row = (r : Int) - 2) with e | e | e
      · simp [e]; omega
      · simp [e]; omega
      · simp [e]; omega
    · omega
/-- what is known behind some rows and some cells of the next one -/
structure Part (t : T) (gs : List GC) (r i : Nat) : Prop where
  stands : ∀ a ∈ gs, Stands t.rows.length a ∧ a.row ≤ r
  cnt : ∀ q : Nat, cntRow gs q = if q < r then (t.rows.getD q dR).cells.length else if q = r then i else 0
  neg : ∀ q : Int, q < 0 → cntRow gs q = 0
theorem Part.few {t : T} {gs : List GC} {r i : Nat} (h : Part t gs r i) (hl : Low t) (hi : i < (t.rows.getD r dR).cells.length) (x : GC) (hx : x.row = r) : (gs.filter fun a => rowMeets a x).length ≤ 12 := by
  have h1 := meet_cnt r x hx gs (fun a ha => ⟨(h.stands a ha).2, (h.stands a ha).1.1.2.2.1⟩)
  obtain ⟨k, hk⟩ := hl.few
  have k0 := hk r
  have c0 := h.cnt r
  rw [if_neg (by omega), if_pos rfl] at c0
  have c1 : cntRow gs ((r : Int) - 1) ≤ if r - 1 = k ∧ 1 ≤ r then 5 else 4 := by
    by_cases hr : 1 ≤ r
    · have e := h.cnt (r - 1)
      rw [if_pos (by omega), show ((r - 1 : Nat) : Int) = (r : Int) - 1 by omega] at e
      have := hk (r - 1)
      split at this <;> split <;> omega
    · rw [h.neg _ (by omega)]; omega
  have c2 : cntRow gs ((r : Int) - 2) ≤ if r - 2 = k ∧ 2 ≤ r then 5 else 4 := by
    by_cases hr : 2 ≤ r
    · have e := h.cnt (r - 2)
      rw [if_pos (by omega), show ((r - 2 : Nat) : Int) = (r : Int) - 2 by omega] at e
      have := hk (r - 2)
      split at this <;> split <;> omega
    · rw [h.neg _ (by omega)]; omega
  split at k0 <;> split at c1 <;> split at c2 <;> omega
theorem getD_mem' {α : Type} {l : List α} {i : Nat} {d : α} (h : i < l.length) : l.getD i d ∈ l := by
  have e : l.getD i d = l[i] := by simp [List.getD, h]
  rw [e]; exact List.getElem_mem _
/-- the next cell: it finds its column ahead of the 85th -/
theorem Part.next {t : T} {gs : List GC} {r i : Nat} (h : Part t gs r i) (hl : Low t) (hr : r < t.rows.length) (hi : i < (t.rows.getD r dR).cells.length) :
    (let x := bare r i (endOf t r) ((t.rows.getD r dR).cells.getD i dC)
     ffree gs x ≤ 84 ∧ freeG gs (atCol x (ffree gs x)) = true ∧ (∀ k, k < ffree gs x → freeG gs (atCol x (k : Nat)) = false) ∧ ∀ k : Nat, k ≤ 84 → Stands t.rows.length (atCol x k)) ∧
    Part t (gs ++ [place gs r i (endOf t r) ((t.rows.getD r dR).cells.getD i dC)]) r (i + 1) := by
  have hm := getD_mem' (d := dR) hr
  have hx := hl.span _ hm _ (getD_mem' (d := dC) hi)
  have he := endOf_bounds hl hr
  have hi5 : i ≤ 4 := by
    obtain ⟨k, hk⟩ := hl.few
    have := hk r
    split at this <;> omega
  dsimp only
  generalize hX : (t.rows.getD r dR).cells.getD i dC = x at hx
  have hf := h.few hl hi (bare r i (endOf t r) x) rfl
  obtain ⟨c, hc, hfree⟩ := free_exists gs (bare r i (endOf t r) x) hx.1 (fun a ha => (h.stands a ha).1.2.2.1)
  obtain ⟨f1, f2, f3⟩ := ffree_le (by omega) hfree
  have hst : ∀ k : Nat, k ≤ 84 → Stands t.rows.length (atCol (bare r i (endOf t r) x) k) := by
    intro k hk
    simp only [Stands, atCol, bare]
    omega
  refine ⟨⟨by omega, f2, f3, hst⟩, ?_, ?_, ?_⟩
  · intro a ha
    rcases List.mem_append.1 ha with ha | ha
    · exact h.stands a ha
    · simp at ha
      subst ha
      exact ⟨hst _ (by omega), Int.le_refl _⟩
  · intro q
    have hrow : (place gs r i (endOf t r) x).row = (r : Int) := rfl
    rw [cntRow_snoc, h.cnt q, hrow]
    by_cases h1 : q < r
    · rw [if_pos h1, if_pos h1, if_neg (by omega : ¬ (r : Int) = q), Nat.add_zero]
    · rw [if_neg h1, if_neg h1]
      by_cases h2 : q = r
      · subst h2; simp
      · rw [if_neg h2, if_neg h2, if_neg (by omega)]
  · intro q hq
    have hrow : (place gs r i (endOf t r) x).row = (r : Int) := rfl
    rw [cntRow_snoc, h.neg q hq, hrow, if_neg (by omega)]
theorem Part.zero (t : T) : Part t [] 0 0 := ⟨fun a ha => (by cases ha), fun q => (by simp [cntRow]), fun q _ => (by simp [cntRow])⟩
theorem Part.rowEnd {t : T} {gs : List GC} {r : Nat} (h : Part t gs r (t.rows.getD r dR).cells.length) : Part t gs (r + 1) 0 := by
  refine ⟨fun a ha => ⟨(h.stands a ha).1, by have := (h.stands a ha).2; omega⟩, fun q => ?_, h.neg⟩
  rw [h.cnt q]
  by_cases h1 : q < r
  · rw [if_pos h1, if_pos (by omega)]
  · rw [if_neg h1]
    by_cases h2 : q = r
    · subst h2; simp
    · rw [if_neg h2, if_neg (by omega)]
      split <;> rfl
theorem part_row {t : T} (hl : Low t) {r : Nat} (hr : r < t.rows.length) (h : Part t (gridTo t r) r 0) : ∀ i, i ≤ (t.rows.getD r dR).cells.length → Part t (rowTo (endOf t r) r (t.rows.getD r dR).cells (gridTo t r) i) r i
  | 0, _ => h
  | i + 1, hi => (Part.next (part_row hl hr h i (by omega)) hl hr (by omega)).2
theorem part_grid {t : T} (hl : Low t) : ∀ r, r ≤ t.rows.length → Part t (gridTo t r) r 0
  | 0, _ => Part.zero t
  | r + 1, hr => (part_row hl (by omega) (part_grid hl r (by omega)) _ (Nat.le_refl _)).rowEnd
theorem rowTo_len (e : Int) (r : Nat) (cs : List C) (gs : List GC) (i : Nat) : (rowTo e r cs gs i).length = gs.length + i := by
  induction i with
  | zero => rfl
  | succ i ih => simp only [rowTo, List.length_append, ih, List.length_cons, List.length_nil]; omega
theorem grid_len {t : T} (hl : Low t) (r : Nat) : (gridTo t r).length ≤ 5 * r := by
  induction r with
  | zero => simp [gridTo]
  | succ r ih =>
    obtain ⟨k, hk⟩ := hl.few
    have := hk r
    simp only [gridTo, rowTo_len]
    split at this <;> omega
/-- the grid of a drawn table -/
def gridOf (t : T) : List GC := gridTo t t.rows.length
end Go.Proofs.Ytggmjiddadjilal
namespace Go.Proofs.Ytggmjiddadjilal
open Go.RowKit

/-- a world in which what was in memory is as it was -/
structure BW (w : World) where
  u : World
  h : Below w.heap.size w u
theorem bw_some (w : World) : Nonempty (BW w) := ⟨⟨w, Below.refl _ _⟩⟩
theorem wp_region_quiet_below {P : Program} {id : Nat} {Q : Exit → Act → World → Prop} {a : Act} {w : World} {l : List Oper} (hm : P.follows .mixedOrders = true) (hB : Region.lexB .any l.toArray = true)
    (h : wpQuiet P l.toArray (fun w' => ∃ p : BW w, w' = p.u) (fun a' => ∀ w', (∃ p : BW w, w' = p.u) → Q .normal a' w') l a) : (Code.region id l.toArray true).wp P Q a w :=
  wp_region_quiet (C := fun w' => ∃ p : BW w, w' = p.u) hm hB ⟨⟨_, k_drew (Below.refl _ _)⟩, rfl⟩ (by simpa using h)
theorem bw_of {P : Program} {f : FuncId} {args : Array Value} {w : World} {p : BW w} {v : Value} (h : Calls P f args p.u fun e w' => e = .returned v ∧ Below p.u.heap.size p.u w') :
    Calls P f args p.u fun e w'' => e = .returned v ∧ ∃ p : BW w, w'' = p.u :=
  h.mono fun _ _ ⟨he, hb⟩ => ⟨he, ⟨_, k_trans p.h hb⟩, rfl⟩
theorem bw_same {P : Program} {f : FuncId} {args : Array Value} {w : World} {p : BW w} {v : Value} (h : Calls P f args p.u fun e w' => e = .returned v ∧ w' = p.u) :
    Calls P f args p.u fun e w'' => e = .returned v ∧ ∃ p : BW w, w'' = p.u :=
  h.mono fun _ _ ⟨he, hb⟩ => ⟨he, p, hb⟩
theorem bw_cell {w : World} {a : Addr} {v : Value} (hb : a.block < w.heap.size) (h : w.cell? a = some v) (p : BW w) : p.u.cell? a = some v := (p.h.cell hb).trans h
end Go.Proofs.Ytggmjiddadjilal
namespace Go.Proofs.Ytggmjiddadjilal
open Go.RowKit Go.BigFrame

/-- no number of a cell is great -/
def Sm (x : GC) : Prop := (0 ≤ x.row ∧ x.row ≤ 100000) ∧ (0 ≤ x.col ∧ x.col ≤ 100000) ∧ (0 ≤ x.rows ∧ x.rows ≤ 100000) ∧ (0 ≤ x.cols ∧ x.cols ≤ 100000)
theorem fits_sm {R C : Int} {x : GC} (h : fitsB R C x = true) (hR : R ≤ 8) (hC : C ≤ 94) : Sm x := by
  obtain ⟨e1, e2, e3, e4, h1, h2, h3, h4⟩ := fits_of h
  unfold Sm
  omega
theorem GsAt.take {w : World} {z : Nat} {ac : Option Addr} {cc : Nat} {gs : List GC} (h : GsAt w z (.slice ac gs.length cc) gs) {k : Nat} (hk : k ≤ gs.length) : GsAt w z (.slice ac (gs.take k).length cc) (gs.take k) := by
  obtain ⟨a, cap, e, h1, h2, hx⟩ := h
  simp only [Value.slice.injEq, true_and] at e
  obtain ⟨rfl, rfl⟩ := e
  have hl : (gs.take k).length = k := by rw [List.length_take]; omega
  refine ⟨_, _, rfl, by omega, h2, fun i hi => ?_⟩
  obtain ⟨b, off, ea, hb, hz, he⟩ := hx i (by omega)
  have e : (gs.take k).getD i dG = gs.getD i dG := by simp [List.getD, show i < k by omega]
  exact ⟨b, off, ea, hb, hz, by dsimp only; rw [e]; exact he⟩

def gcA (x : GC) : Value := .agg #[.int .i64 x.row, .int .i64 x.col, .int .i64 x.rows, .int .i64 x.cols, .int .i64 x.ins]
set_option maxRecDepth 100000 in
set_option maxHeartbeats 1000000 in
theorem l3Meets_any (a b : GC) (ha : Sm a) (hb : Sm b) (w : World) :
    Calls Try.prog 74 #[.agg #[.int .i64 a.row, .int .i64 a.col, .int .i64 a.rows, .int .i64 a.cols, .int .i64 a.ins], .agg #[.int .i64 b.row, .int .i64 b.col, .int .i64 b.rows, .int .i64 b.cols, .int .i64 b.ins]] w fun e w' => e = .returned (.bool (meetsB a b)) ∧ Below w.heap.size w w' := by
  obtain ⟨a0, a1, a2, a3⟩ := ha
  obtain ⟨b0, b1, b2, b3⟩ := hb
  by_cases h1 : a.row < b.row + b.rows
  · by_cases h2 : b.row < a.row + a.rows
    · by_cases h3 : a.col < b.col + b.cols
      · have HE : Hid (meetsB a b = decide (b.col < a.col + a.cols)) := by
          show meetsB a b = _
          simp only [meetsB, h1, h2, h3, decide_true, Bool.true_and]
        go_enter Try.func74, Try.ntmps74
        go_wp2
        go_ret
        exact ⟨retB HE.out.symm, k_alloc (k_alloc (Below.refl _ _) _) _⟩
      · have HE : Hid (meetsB a b = false) := by
          show meetsB a b = _
          simp only [meetsB, h3, decide_false, Bool.false_and, Bool.and_false]
        go_enter Try.func74, Try.ntmps74
        go_wp2
        go_ret
        exact ⟨retB HE.out.symm, k_alloc (k_alloc (Below.refl _ _) _) _⟩
    · have HE : Hid (meetsB a b = false) := by
        show meetsB a b = _
        simp only [meetsB, h2, decide_false, Bool.false_and, Bool.and_false]
      go_enter Try.func74, Try.ntmps74
      go_wp2
      go_ret
      exact ⟨retB HE.out.symm, k_alloc (k_alloc (Below.refl _ _) _) _⟩
  · have HE : Hid (meetsB a b = false) := by
      show meetsB a b = _
      simp only [meetsB, h1, decide_false, Bool.false_and]
    go_enter Try.func74, Try.ntmps74
    go_wp2
    go_ret
    exact ⟨retB HE.out.symm, k_alloc (k_alloc (Below.refl _ _) _) _⟩

theorem freeG_hit {gs : List GC} {x : GC} {k : Nat} (hk : k < gs.length) (h : meetsB (gs.getD k dG) x = true) : freeG gs x = false := by
  cases h2 : freeG gs x with
  | false => rfl
  | true =>
    have e : gs.getD k dG = gs[k] := by simp [List.getD, hk]
    have := List.all_eq_true.1 h2 gs[k] (List.getElem_mem hk)
    rw [← e, h] at this
    cases this
theorem freeG_all {gs : List GC} {x : GC} (h : ∀ j, j < gs.length → meetsB (gs.getD j dG) x = false) : freeG gs x = true := by
  refine List.all_eq_true.2 (fun a ha => ?_)
  obtain ⟨i, hi, rfl⟩ := List.mem_iff_getElem.1 ha
  have := h i hi
  have e : gs.getD i dG = gs[i] := by simp [List.getD, hi]
  rw [e] at this
  rw [this]; rfl

set_option maxRecDepth 100000 in
set_option maxHeartbeats 1000000 in
theorem l3Free_any (ac : Option Addr) (cc : Nat) (gs : List GC) (hgs : ∀ a ∈ gs, Sm a) (x : GC) (hxs : Sm x) (w : World) {z : Nat} (h : GsAt w z (.slice ac gs.length cc) gs) :
    Calls Try.prog 61 #[.slice ac gs.length cc, .agg #[.int .i64 x.row, .int .i64 x.col, .int .i64 x.rows, .int .i64 x.cols, .int .i64 x.ins]] w fun e w' => e = .returned (.bool (freeG gs x)) ∧ Below w.heap.size w w' := by
  obtain ⟨_, _, _, hlen⟩ := At.form h
  unfold maxLen at hlen
  have K0 := Hid.intro (k_alloc (Below.refl w.heap.size w) (.cells #[.int .i64 x.row, .int .i64 x.col, .int .i64 x.rows, .int .i64 x.cols, .int .i64 x.ins] 54))
  have H := Hid.intro h
  have HG := Hid.intro hgs
  have HXS := Hid.intro hxs
  have hmx : Try.prog.follows .mixedOrders = true := by kernel_rfl
  clear h hgs hxs
  go_enter Try.func61, Try.ntmps61
  go_wp2_with fail
  go_loopw [5] (fun i W => ∃ k : Nat, k ≤ gs.length ∧ i = .int .i64 k ∧ Hid (∀ j, j < k → meetsB (gs.getD j dG) x = false) ∧ Hid (Below w.heap.size w W) ∧ Hid (W.heap[w.heap.size]? = some (.cells #[.int .i64 x.row, .int .i64 x.col, .int .i64 x.rows, .int .i64 x.cols, .int .i64 x.ins] 54))) (fun i _ => gs.length - (intOf i).toNat)
  case atStart => exact ⟨0, Nat.zero_le _, rfl, fun j hj => absurd hj (Nat.not_lt_zero _), K0.out, newestB _ _⟩
  case round =>
    obtain ⟨k, hk, rfl, HA, HB, HX⟩ := hrel
    have hz : w.heap.size < wr.heap.size := (Array.getElem?_eq_some_iff.1 HX.out).1
    by_cases hlt : k < gs.length
    · have hlt' : (k : Int) < (gs.length : Int) := by omega
      have h0' : (0 : Int) ≤ (k : Int) := by omega
      obtain ⟨q, off, cap', e', hc1, hc2, hbl, hx, hs⟩ := At.get (H.out.kept HB.out) hlt
      simp only [Value.slice.injEq, true_and] at e'
      obtain ⟨rfl, rfl⟩ := e'
      have HH : Hid (meetsB (gs.getD k dG) x = true → freeG gs x = false) := fun hp => freeG_hit hlt hp
      have HN : Hid (meetsB (gs.getD k dG) x = false → ∀ j, j < k + 1 → meetsB (gs.getD j dG) x = false) := fun hp j hj => by
        rcases Nat.lt_or_eq_of_le (Nat.lt_succ_iff.1 hj) with h1 | rfl
        · exact HA.out j h1
        · exact hp
      have HS : Sm (gs.getD k dG) := by
        have e : gs.getD k dG = gs[k] := by simp [List.getD, hlt]
        rw [e]
        exact HG.out _ (List.getElem_mem hlt)
      have HL := Hid.intro (l3Meets_any (gs.getD k dG) x HS HXS.out)
      clear HS hs
      generalize gs.getD k dG = y at hx HH HN HL
      obtain ⟨x0, x1, x2, x3, x4⟩ := hx
      have y0 := bw_cell (a := ⟨q, off + k * 5, none⟩) hbl x0
      have y1 := bw_cell (a := ⟨q, off + k * 5 + 1, none⟩) hbl x1
      have y2 := bw_cell (a := ⟨q, off + k * 5 + 2, none⟩) hbl x2
      have y3 := bw_cell (a := ⟨q, off + k * 5 + 3, none⟩) hbl x3
      have y4 := bw_cell (a := ⟨q, off + k * 5 + 4, none⟩) hbl x4
      have b0 := bw_cell (a := ⟨w.heap.size, 0, none⟩) (v := .int .i64 x.row) hz (cellB HX.out)
      have b1 := bw_cell (a := ⟨w.heap.size, 1, none⟩) (v := .int .i64 x.col) hz (cellB HX.out)
      have b2 := bw_cell (a := ⟨w.heap.size, 2, none⟩) (v := .int .i64 x.rows) hz (cellB HX.out)
      have b3 := bw_cell (a := ⟨w.heap.size, 3, none⟩) (v := .int .i64 x.cols) hz (cellB HX.out)
      have b4 := bw_cell (a := ⟨w.heap.size, 4, none⟩) (v := .int .i64 x.ins) hz (cellB HX.out)
      unfold maxLen at hc2
      clear x0 x1 x2 x3 x4
      go_wp2_with fail
      have hne := bw_some wr
      refine wp_region_quiet_below hmx (by kernel_rfl) ?_
      repeat (go_big_quiet_step (refine bw_of (HL.out _)))
      refine wpQuiet_nil ?_
      intro _ hw'
      obtain ⟨⟨W7, hW7⟩, hw''⟩ := hw'
      subst hw''
      have HB7 := Hid.intro (k_trans HB.out hW7)
      have HX7 := Hid.intro ((hW7.block w.heap.size hz).trans HX.out)
      clear y0 y1 y2 y3 y4 b0 b1 b2 b3 b4 hW7
      cases h1 : meetsB y x with
      | false =>
        have HF := Hid.intro (HN.out h1)
        clear HH HN HA h1
        go_wp2
        go_roundw
        case rel => exact ⟨k + 1, by omega, by go_num, HF, HB7, HX7⟩
        case measure => simp [intOf]; omega
      | true =>
        have HF := Hid.intro (HH.out h1)
        clear HH HN HA h1
        go_wp2
        go_ret
        exact ⟨retB HF.out.symm, HB7.out⟩
    · obtain rfl : k = gs.length := by omega
      have HF := Hid.intro (freeG_all HA.out)
      clear HA
      go_wp2
      go_ret
      exact ⟨retB HF.out.symm, HB.out⟩
end Go.Proofs.Ytggmjiddadjilal
namespace Go.Proofs.Ytggmjiddadjilal
open Go.RowKit

theorem row_form {w : World} {base : Nat} {e : TypeId} {sz : Nat} {v : Value} {m : Nat} {xs : List Value} (h : w.ownsRow base e sz v m xs) : ∃ a cap, v = .slice a m cap ∧ m ≤ maxLen := by
  rcases h.2 with ⟨rfl, rfl⟩ | ⟨g, cap, cur, rfl, _, _, h1, h2, _⟩
  · exact ⟨none, 0, rfl, by unfold maxLen; omega⟩
  · exact ⟨_, cap, rfl, Nat.le_trans h1 h2⟩
/-- elements of so many cells, one behind the other -/
theorem flat_get {α : Type} (f : α → List Value) (sz : Nat) (hf : ∀ x, (f x).length = sz) (l : List α) (i : Nat) (hi : i < l.length) (j : Nat) (hj : j < sz) : (l.flatMap f)[i * sz + j]? = (f l[i])[j]? := by
  induction l generalizing i with
  | nil => simp at hi
  | cons a t ih =>
    rw [List.flatMap_cons]
    cases i with
    | zero => rw [List.getElem?_append_left (by rw [hf]; omega)]; simp
    | succ i =>
      rw [List.getElem?_append_right (by rw [hf, Nat.succ_mul]; omega), hf]
      have e : (i + 1) * sz + j - sz = i * sz + j := by rw [Nat.succ_mul]; omega
      rw [e, ih i (by simpa using hi)]
      simp
theorem flat_len {α : Type} (f : α → List Value) (sz : Nat) (hf : ∀ x, (f x).length = sz) (l : List α) : (l.flatMap f).length = l.length * sz := by
  induction l with
  | nil => simp
  | cons a t ih => rw [List.flatMap_cons, List.length_append, hf, ih, List.length_cons, Nat.succ_mul]; omega
theorem row_cell {w : World} {base : Nat} {e : TypeId} {sz : Nat} {m : Nat} {xs : List Value} {g cap : Nat} (h : w.ownsRow base e sz (.slice (some ⟨g, 0, none⟩) m cap) m xs) {k : Nat} {u : Value} (hk : xs[k]? = some u) : w.cell? ⟨g, k, none⟩ = some u := by
  have hl : k < xs.length := (List.getElem?_eq_some_iff.1 hk).1
  rcases h.2 with ⟨e, _⟩ | ⟨g', cap', cur, e, _, hc, _, _, _, ht⟩
  · simp at e
  · simp at e
    obtain ⟨rfl, rfl⟩ := e
    rw [cellB hc, ← Array.getElem?_toList]
    rw [← ht, List.getElem?_take_of_lt (by rw [h.1] at hl; exact hl)] at hk
    exact hk
theorem news_at {w : World} {g : Nat} {arr : Array Value} {t : TypeId} (h : w.heap[g]? = some (.cells arr t)) : ∀ j u, arr.toList[j]? = some u → w.cell? ((⟨g, 0, none⟩ : Addr).add j) = some u := fun j u hu => by
  have e : (⟨g, 0, none⟩ : Addr).add j = ⟨g, j, none⟩ := by simp [Addr.add]; intro h; exact h.symm
  rw [e, cellB h, ← Array.getElem?_toList]
  exact hu
end Go.Proofs.Ytggmjiddadjilal
namespace Go.Proofs.Ytggmjiddadjilal
open Go.RowKit

/-- All that was in memory is as it was, but for block r. -/
structure Bk (r : Nat) (w w' : World) : Prop where
  os : w'.os = w.os
  tape : w'.tape = w.tape
  output : w'.output = w.output
  size : w.heap.size ≤ w'.heap.size
  block : ∀ k, k < w.heap.size → k ≠ r → w'.heap[k]? = w.heap[k]?
theorem Bk.refl (r : Nat) (w : World) : Bk r w w := ⟨rfl, rfl, rfl, Nat.le_refl _, fun _ _ _ => rfl⟩
theorem Bk.trans {r : Nat} {a b c : World} (h : Bk r a b) (k : Bk r b c) : Bk r a c :=
  ⟨k.os.trans h.os, k.tape.trans h.tape, k.output.trans h.output, Nat.le_trans h.size k.size, fun i hi hr => (k.block i (Nat.lt_of_lt_of_le hi h.size) hr).trans (h.block i hi hr)⟩
theorem Bk.alloc {r : Nat} {a w : World} (h : Bk r a w) (o : Obj) : Bk r a (w.alloc o) :=
  h.trans ⟨rfl, rfl, rfl, by simp, fun k hk _ => Below.heap_alloc _ _ _ hk⟩
theorem Bk.drewN {r : Nat} {a w : World} (h : Bk r a w) (n : Nat) : Bk r a (w.drewN n) := ⟨h.os, h.tape, h.output, h.size, h.block⟩
theorem Bk.drew {r : Nat} {a w : World} (h : Bk r a w) : Bk r a w.drew := ⟨h.os, h.tape, h.output, h.size, h.block⟩
theorem Bk.set {r : Nat} {a w : World} (h : Bk r a w) {p : Addr} (hp : p.block = r ∨ a.heap.size ≤ p.block) (u : Value) : Bk r a (w.setCell p u) :=
  ⟨h.os, h.tape, h.output, by simpa [World.setCell] using h.size, fun k hk hr => (Below.heap_setCell _ _ _ _ (by omega)).trans (h.block k hk hr)⟩
theorem Bk.below {r : Nat} {w w' : World} (h : Bk r w w') {n : Nat} (hn : n ≤ w.heap.size) (hr : n ≤ r) : Below n w w' := ⟨h.os, h.tape, h.output, h.size, fun k hk => h.block k (by omega) (by omega)⟩
theorem Bk.of_below {r : Nat} {w w' : World} (h : Below w.heap.size w w') : Bk r w w' := ⟨h.os, h.tape, h.output, h.size, fun k hk _ => h.block k hk⟩
theorem Bk.cell {r : Nat} {w w' : World} (h : Bk r w w') {p : Addr} (hp : p.block < w.heap.size) (hr : p.block ≠ r) : w'.cell? p = w.cell? p := World.cell?_of_block (w := w) (h.block p.block hp hr)
theorem Bk.frozen {r : Nat} {w w' : World} (h : Bk r w w') {p : Addr} (hp : p.block < w.heap.size) (hr : p.block ≠ r) : w'.frozen? p = w.frozen? p := World.frozen?_of_block (w := w) (h.block p.block hp hr)
theorem Bk.cells {r : Nat} {w w' : World} (h : Bk r w w') : (∀ b o, b < w.heap.size → b ≠ r → w'.cell? ⟨b, o, none⟩ = w.cell? ⟨b, o, none⟩) ∧ (∀ b o, b < w.heap.size → b ≠ r → w'.frozen? ⟨b, o, none⟩ = w.frozen? ⟨b, o, none⟩) :=
  ⟨fun b o h1 h2 => h.cell (p := ⟨b, o, none⟩) h1 h2, fun b o h1 h2 => h.frozen (p := ⟨b, o, none⟩) h1 h2⟩
end Go.Proofs.Ytggmjiddadjilal
