/-
  PROVED HERE: small facts on grids: whether a cell fits, whether cells meet, whether a grid is ok; cells meet just if they have a slot in common.
-/
import Derived.Test.YtfkkhfiiokhnaatGrdD
import Derived.Test.YtfkkhfiiokhnaatMem
import Derived.Test.YtfkkhfiiokhnaatInB
import Derived.Test.YtfkkhfiiokhnaatTakTake
namespace Go.Proofs.Ytfkkhfiiokhnaat
open Go.RowKit

def boundsB (R C : Int) (n : Nat) : Bool := inB R 1 8 && (inB C 1 94 && decide (n ≤ 40))
def fitsB (R C : Int) (x : GC) : Bool := inB x.row 0 (R - 1) && (inB x.rows 1 (R - x.row) && (inB x.col 0 (C - 1) && (inB x.cols 1 (C - x.col) && inB x.ins 0 4)))
def meetsB (a b : GC) : Bool := decide (a.row < b.row + b.rows) && (decide (b.row < a.row + a.rows) && (decide (a.col < b.col + b.cols) && decide (b.col < a.col + a.cols)))
def freeG (xs : List GC) (x : GC) : Bool := xs.all fun a => !meetsB a x
def okTo (R C : Int) (gs : List GC) (k : Nat) : Bool := (List.range k).all fun i => fitsB R C (gs.getD i dG) && freeG (gs.take i) (gs.getD i dG)
def okB (g : G) : Bool := boundsB g.rows g.cols g.cells.length && okTo g.rows g.cols g.cells g.cells.length
theorem okTo_zero (R C : Int) (gs : List GC) : okTo R C gs 0 = true := rfl
theorem okTo_succ {R C : Int} {gs : List GC} {k : Nat} (h : okTo R C gs k = true) (h1 : fitsB R C (gs.getD k dG) = true) (h2 : freeG (gs.take k) (gs.getD k dG) = true) : okTo R C gs (k + 1) = true := by
  unfold okTo at h ⊢
  rw [List.range_succ, List.all_append, h]
  simp only [List.all_cons, h1, h2, List.all_nil, Bool.and_self]
theorem okTo_false {R C : Int} {gs : List GC} {k n : Nat} (hk : k < n) (h : (fitsB R C (gs.getD k dG) && freeG (gs.take k) (gs.getD k dG)) = false) : okTo R C gs n = false := by
  cases h2 : okTo R C gs n with
  | false => rfl
  | true => rw [List.all_eq_true.1 h2 k (List.mem_range.2 hk)] at h; cases h
theorem okB_false1 {g : G} (h : boundsB g.rows g.cols g.cells.length = false) : okB g = false := by simp only [okB, h, Bool.false_and]
theorem okB_false2 {g : G} (h : okTo g.rows g.cols g.cells g.cells.length = false) : okB g = false := by simp only [okB, h, Bool.and_false]
theorem bounds_of {R C : Int} {n : Nat} (h : boundsB R C n = true) : 1 ≤ R ∧ R ≤ 8 ∧ 1 ≤ C ∧ C ≤ 94 ∧ n ≤ 40 := by
  simp [boundsB, inB] at h
  omega
theorem bounds_intro {R C : Int} {n : Nat} (h1 : inB R 1 8 = true) (h2 : inB C 1 94 = true) (h3 : n ≤ 40) : boundsB R C n = true := by simp [boundsB, h1, h2, h3]
/-- a cell that fits, in plain numbers -/
def Fit5 (R C : Int) (x : GC) (r c rs cs : Nat) : Prop := x.row = r ∧ x.col = c ∧ x.rows = rs ∧ x.cols = cs ∧ 1 ≤ rs ∧ 1 ≤ cs ∧ ((r + rs : Nat) : Int) ≤ R ∧ ((c + cs : Nat) : Int) ≤ C
theorem fits_of {R C : Int} {x : GC} (h : fitsB R C x = true) : Fit5 R C x x.row.toNat x.col.toNat x.rows.toNat x.cols.toNat := by
  simp [fitsB, inB] at h
  unfold Fit5
  omega
def slotsG (x : GC) : List Sl := rowsSl x.row.toNat x.col.toNat x.cols.toNat x.rows.toNat
/-- the slots of cells -/
def takenBy (gs : List GC) : List (Nat × Nat) := (gs.flatMap slotsG).map (·.1)
theorem takenBy_nil : takenBy [] = [] := rfl
theorem takenBy_snoc (gs : List GC) (x : GC) : takenBy (gs ++ [x]) = takenBy gs ++ (slotsG x).map (·.1) := by simp [takenBy]
theorem mem_rowsSl {r c rs cs : Nat} (hr : r + rs ≤ 1000) (hc : c + cs ≤ 1000) (y : Nat × Nat) : y ∈ (rowsSl r c cs rs).map (·.1) ↔ (r ≤ y.1 ∧ y.1 < r + rs) ∧ c ≤ y.2 ∧ y.2 < c + cs := by
  simp only [rowsSl, rowSl, List.mem_map, List.mem_flatMap, List.mem_range]
  constructor
  · rintro ⟨z, ⟨i, hi, j, hj, rfl⟩, rfl⟩
    rw [toSl_val (by omega)]
    dsimp only
    omega
  · rintro ⟨⟨h1, h2⟩, h3, h4⟩
    refine ⟨toSl (r + (y.1 - r)) (c + (y.2 - c)), ⟨y.1 - r, by omega, y.2 - c, by omega, rfl⟩, ?_⟩
    rw [toSl_val (by omega)]
    exact Prod.ext (by dsimp only; omega) (by dsimp only; omega)
theorem mem_slotsG {R C : Int} {x : GC} (h : fitsB R C x = true) (hR : R ≤ 8) (hC : C ≤ 94) (y : Nat × Nat) : y ∈ (slotsG x).map (·.1) ↔ (x.row ≤ y.1 ∧ (y.1 : Int) < x.row + x.rows) ∧ x.col ≤ y.2 ∧ (y.2 : Int) < x.col + x.cols := by
  obtain ⟨e1, e2, e3, e4, h1, h2, h3, h4⟩ := fits_of h
  unfold slotsG
  rw [mem_rowsSl (by omega) (by omega)]
  omega
/-- cells meet just if they have a slot in common -/
theorem meets_iff {R C : Int} {a x : GC} (ha : fitsB R C a = true) (hx : fitsB R C x = true) (hR : R ≤ 8) (hC : C ≤ 94) : meetsB a x = true ↔ ∃ y, y ∈ (slotsG a).map (·.1) ∧ y ∈ (slotsG x).map (·.1) := by
  obtain ⟨a1, a2, a3, a4, a5, a6, a7, a8⟩ := fits_of ha
  obtain ⟨x1, x2, x3, x4, x5, x6, x7, x8⟩ := fits_of hx
  have e : meetsB a x = true ↔ a.row < x.row + x.rows ∧ x.row < a.row + a.rows ∧ a.col < x.col + x.cols ∧ x.col < a.col + a.cols := by simp [meetsB]
  rw [e]
  constructor
  · rintro ⟨h1, h2, h3, h4⟩
    refine ⟨(max a.row.toNat x.row.toNat, max a.col.toNat x.col.toNat), (mem_slotsG ha hR hC _).2 ?_, (mem_slotsG hx hR hC _).2 ?_⟩
    · dsimp only; omega
    · dsimp only; omega
  · rintro ⟨y, h1, h2⟩
    have k1 := (mem_slotsG ha hR hC _).1 h1
    have k2 := (mem_slotsG hx hR hC _).1 h2
    omega
theorem free_eq {R C : Int} {gs : List GC} {x : GC} (hg : ∀ a ∈ gs, fitsB R C a = true) (hx : fitsB R C x = true) (hR : R ≤ 8) (hC : C ≤ 94) : freeIn (takenBy gs) x.row.toNat x.col.toNat x.rows.toNat x.cols.toNat = freeG gs x := by
  rw [Bool.eq_iff_iff]
  unfold freeIn freeG
  rw [List.all_eq_true, List.all_eq_true]
  constructor
  · intro h a ha
    cases hm : meetsB a x with
    | false => rfl
    | true =>
      obtain ⟨y, h1, h2⟩ := (meets_iff (hg a ha) hx hR hC).1 hm
      obtain ⟨z, hz, rfl⟩ := List.mem_map.1 h2
      have := of_decide_eq_true (h z hz)
      refine absurd ?_ this
      obtain ⟨u, hu, e⟩ := List.mem_map.1 h1
      exact List.mem_map.2 ⟨u, List.mem_flatMap.2 ⟨a, ha, hu⟩, e⟩
  · intro h z hz
    refine decide_eq_true (fun hm => ?_)
    obtain ⟨u, hu, e⟩ := List.mem_map.1 hm
    obtain ⟨a, ha, hua⟩ := List.mem_flatMap.1 hu
    have := h a ha
    rw [(meets_iff (hg a ha) hx hR hC).2 ⟨z.1, List.mem_map.2 ⟨u, hua, e⟩, List.mem_map.2 ⟨z, hz, rfl⟩⟩] at this
    cases this
theorem okTo_fits {R C : Int} {gs : List GC} {k : Nat} (hk : k ≤ gs.length) (h : okTo R C gs k = true) : ∀ a ∈ gs.take k, fitsB R C a = true := by
  intro a ha
  obtain ⟨i, hi, rfl⟩ := List.mem_iff_getElem.1 ha
  rw [List.length_take] at hi
  have := List.all_eq_true.1 h i (List.mem_range.2 (by omega))
  rw [Bool.and_eq_true] at this
  have e : gs.getD i dG = (gs.take k)[i] := by simp [List.getD, show i < gs.length by omega]
  rw [← e]
  exact this.1
theorem rowSl_len (r c a : Nat) : (rowSl r c a).length = a := by simp [rowSl]
theorem rowsSl_len (r c cs d : Nat) : (rowsSl r c cs d).length = d * cs := by
  induction d with
  | zero => simp [rowsSl]
  | succ d ih => rw [rowsSl_succ, List.length_append, ih, rowSl_len, Nat.succ_mul]
theorem slotsG_len {R C : Int} {x : GC} (h : fitsB R C x = true) (hR : R ≤ 8) (hC : C ≤ 94) : (slotsG x).length ≤ 752 := by
  obtain ⟨e1, e2, e3, e4, h1, h2, h3, h4⟩ := fits_of h
  unfold slotsG
  rw [rowsSl_len]
  have a1 : x.rows.toNat ≤ 8 := by omega
  have a2 : x.cols.toNat ≤ 94 := by omega
  exact Nat.mul_le_mul a1 a2
theorem takenBy_len {R C : Int} (hR : R ≤ 8) (hC : C ≤ 94) : ∀ (gs : List GC), (∀ a ∈ gs, fitsB R C a = true) → (takenBy gs).length ≤ gs.length * 752
  | [], _ => by simp [takenBy]
  | a :: t, h => by
    have h1 := slotsG_len (h a (by simp)) hR hC
    have h2 := takenBy_len hR hC t (fun b hb => h b (by simp [hb]))
    simp only [takenBy, List.length_map, List.flatMap_cons, List.length_append, List.length_cons] at h2 ⊢
    omega
end Go.Proofs.Ytfkkhfiiokhnaat
