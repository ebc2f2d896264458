/-
  PROVED HERE: of a grid that is ok there are as many slots without a cell as its slots are more than those of its cells.
-/
import Derived.Test.YtggmjiddadjilacB17
import Derived.Test.YtggmjiddadjilacB4
import Derived.Test.YtggmjiddadjilacB20
namespace Go.Proofs.Ytggmjiddadjilac
open Go.RowKit

/-- whether no cell is found at a place -/
def noC (gs : List GC) (r c : Nat) : Bool := decide (findTo (holdsB (r : Int) (c : Int)) gs < 0)
/-- places without a cell: of a row, the first c; of the first r rows -/
def eR (gs : List GC) (r c : Nat) : Nat := (List.range c).countP (noC gs r)
def eA (gs : List GC) (C r : Nat) : Nat := ((List.range r).map (fun k => eR gs k C)).sum
theorem eR_zero (gs : List GC) (r : Nat) : eR gs r 0 = 0 := rfl
theorem eR_succ (gs : List GC) (r c : Nat) : eR gs r (c + 1) = eR gs r c + (if noC gs r c = true then 1 else 0) := by
  simp [eR, List.range_succ, List.countP_append, List.countP_cons]
theorem eR_le (gs : List GC) (r c : Nat) : eR gs r c ≤ c := by
  have := List.countP_le_length (p := noC gs r) (l := List.range c)
  simpa [eR] using this
theorem eA_zero (gs : List GC) (C : Nat) : eA gs C 0 = 0 := rfl
theorem eA_succ (gs : List GC) (C r : Nat) : eA gs C (r + 1) = eA gs C r + eR gs r C := by simp [eA, List.range_succ]
theorem eA_le (gs : List GC) (C : Nat) : ∀ r, eA gs C r ≤ r * C
  | 0 => by simp [eA]
  | r + 1 => by
    rw [eA_succ, Nat.succ_mul]
    have h1 := eA_le gs C r
    have h2 := eR_le gs r C
    omega
theorem findTo_neg {p : GC → Bool} {gs : List GC} : findTo p gs < 0 ↔ ∀ a ∈ gs, p a = false := by
  unfold findTo
  cases h : gs.findIdx? p with
  | none => simp only [List.findIdx?_eq_none_iff] at h; simp; exact h
  | some k =>
    rw [List.findIdx?_eq_some_iff_getElem] at h
    obtain ⟨hk, hp, _⟩ := h
    refine ⟨fun h => by dsimp only at h; omega, fun h => ?_⟩
    have := h _ (List.getElem_mem hk)
    rw [hp] at this
    cases this
def allP (R C : Nat) : List (Nat × Nat) := (List.range R).flatMap fun r => (List.range C).map fun c => (r, c)
theorem mem_allP {R C : Nat} (p : Nat × Nat) : p ∈ allP R C ↔ p.1 < R ∧ p.2 < C := by
  simp only [allP, List.mem_flatMap, List.mem_range, List.mem_map]
  constructor
  · rintro ⟨r, hr, c, hc, rfl⟩; exact ⟨hr, hc⟩
  · rintro ⟨h1, h2⟩; exact ⟨p.1, h1, p.2, h2, rfl⟩
theorem allP_succ (R C : Nat) : allP (R + 1) C = allP R C ++ (List.range C).map fun c => (R, c) := by simp [allP, List.range_succ]
theorem allP_len (C : Nat) : ∀ R, (allP R C).length = R * C
  | 0 => by simp [allP]
  | R + 1 => by rw [allP_succ, List.length_append, allP_len C R, List.length_map, List.length_range, Nat.succ_mul]
theorem allP_nodup (C : Nat) : ∀ R, (allP R C).Nodup
  | 0 => by simp [allP]
  | R + 1 => by
    rw [allP_succ, List.nodup_append]
    refine ⟨allP_nodup C R, List.pairwise_map.2 (List.nodup_range.imp (fun h e => h (by simpa using e))), fun x hx y hy e => ?_⟩
    subst e
    have h1 := (mem_allP x).1 hx
    obtain ⟨c, _, rfl⟩ := List.mem_map.1 hy
    omega
theorem eA_all (gs : List GC) (C : Nat) : ∀ R, eA gs C R = (allP R C).countP (fun p => noC gs p.1 p.2)
  | 0 => by simp [allP, eA]
  | R + 1 => by
    rw [eA_succ, allP_succ, List.countP_append, ← eA_all gs C R, List.countP_map]
    rfl
theorem empty_count {g : G} (h : okB g = true) : ((eA g.cells g.cols.toNat g.rows.toNat : Nat) : Int) = emptyOf g ∧ 1 ≤ g.rows ∧ g.rows ≤ 8 ∧ 1 ≤ g.cols ∧ g.cols ≤ 94 ∧ findTo (holdsB (-1) 0) g.cells = -1 := by
  obtain ⟨hnd, hlen⟩ := taken_full h
  rw [emptyOf_ok h]
  have hok := h
  unfold okB at hok
  rw [Bool.and_eq_true] at hok
  obtain ⟨hR1, hR2, hC1, hC2, hn⟩ := bounds_of hok.1
  have hfit : ∀ a ∈ g.cells, fitsB g.rows g.cols a = true := by
    have := okTo_fits (Nat.le_refl _) hok.2
    rwa [List.take_length] at this
  refine ⟨?_, hR1, hR2, hC1, hC2, ?_⟩
  · rw [eA_all]
    have h1 := List.length_eq_countP_add_countP (fun p : Nat × Nat => noC g.cells p.1 p.2) (l := allP g.rows.toNat g.cols.toNat)
    rw [allP_len] at h1
    have h2 : (allP g.rows.toNat g.cols.toNat).countP (fun p => decide (¬ noC g.cells p.1 p.2 = true)) = (takenBy g.cells).length := by
      rw [List.countP_eq_length_filter]
      refine List.Perm.length_eq ((List.perm_ext_iff_of_nodup ((allP_nodup _ _).filter _) hnd).2 fun p => ?_)
      rw [List.mem_filter, mem_allP]
      have hm : p ∈ takenBy g.cells ↔ ∃ a ∈ g.cells, p ∈ (slotsG a).map (·.1) := by
        simp only [takenBy, List.mem_map, List.mem_flatMap]
        constructor
        · rintro ⟨x, ⟨a, ha, hx⟩, e⟩; exact ⟨a, ha, x, hx, e⟩
        · rintro ⟨a, ha, x, hx, e⟩; exact ⟨x, ⟨a, ha, hx⟩, e⟩
      rw [hm]
      constructor
      · rintro ⟨_, h⟩
        have h3 : ¬ findTo (holdsB (p.1 : Int) (p.2 : Int)) g.cells < 0 := by simpa [noC] using h
        rw [findTo_neg] at h3
        have h4 : ∃ a ∈ g.cells, holdsB (p.1 : Int) (p.2 : Int) a = true := by
          apply Classical.byContradiction
          intro hno
          exact h3 fun a ha => by
            cases hh : holdsB (p.1 : Int) (p.2 : Int) a with
            | false => rfl
            | true => exact absurd ⟨a, ha, hh⟩ hno
        obtain ⟨a, ha, hh⟩ := h4
        refine ⟨a, ha, (mem_slotsG (hfit a ha) hR2 hC2 p).2 ?_⟩
        simp only [holdsB, amongB, Bool.and_eq_true, decide_eq_true_eq] at hh
        omega
      · rintro ⟨a, ha, hp⟩
        have hs := (mem_slotsG (hfit a ha) hR2 hC2 p).1 hp
        obtain ⟨e1, e2, e3, e4, q1, q2, q3, q4⟩ := fits_of (hfit a ha)
        refine ⟨by omega, ?_⟩
        have h3 : ¬ findTo (holdsB (p.1 : Int) (p.2 : Int)) g.cells < 0 := by
          rw [findTo_neg]
          intro hno
          have := hno a ha
          simp only [holdsB, amongB, Bool.and_eq_false_iff, decide_eq_false_iff_not] at this
          omega
        simpa [noC] using h3
    rw [h2] at h1
    have h5 : ((g.rows.toNat * g.cols.toNat : Nat) : Int) = g.rows * g.cols := by
      rw [Int.natCast_mul, Int.toNat_of_nonneg (by omega), Int.toNat_of_nonneg (by omega)]
    rw [← hlen, ← h5]
    omega
  · have : findTo (holdsB (-1) 0) g.cells < 0 := by
      rw [findTo_neg]
      intro a ha
      have hf := hfit a ha
      simp only [fitsB, inB, Bool.and_eq_true, decide_eq_true_eq] at hf
      simp only [holdsB, amongB, Bool.and_eq_false_iff, decide_eq_false_iff_not]
      omega
    unfold findTo at this ⊢
    split at this
    · omega
    · rfl
end Go.Proofs.Ytggmjiddadjilac
