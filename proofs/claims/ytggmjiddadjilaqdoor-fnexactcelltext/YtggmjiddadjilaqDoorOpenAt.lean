/-
  PROVED HERE: a slice that can be read lies in memory as 'At' says, whatever its elements are.
-/
import Derived.Test.YtggmjiddadjilaqDoorTbl
import Derived.Deep.Slices
import Derived.WideShapes
import Derived.OpenShut
namespace Go.Proofs.YtggmjiddadjilaqDoor
open Go.RowKit Go.ChangeShapes Go.Deep

theorem some_of {α : Type} {xs : List α} {i : Nat} {n : Nat} (hl : xs.length = n) (hi : i < n) : ∃ y, xs[i]? = some y := ⟨_, List.getElem?_eq_getElem (by omega)⟩
theorem choose_list {α : Type} (d : α) (P : Nat → α → Prop) : ∀ n, (∀ i, i < n → ∃ x, P i x) → ∃ l : List α, l.length = n ∧ ∀ i, i < n → P i (l.getD i d)
  | 0, _ => ⟨[], rfl, fun i hi => absurd hi (Nat.not_lt_zero _)⟩
  | n + 1, h => by
    obtain ⟨l, hl, hp⟩ := choose_list d P n (fun i hi => h i (Nat.lt_succ_of_lt hi))
    obtain ⟨x, hx⟩ := h n (Nat.lt_succ_self _)
    refine ⟨l ++ [x], by simp [hl], fun i hi => ?_⟩
    rcases Nat.lt_or_eq_of_le (Nat.lt_succ_iff.1 hi) with h1 | h1
    · have e : (l ++ [x]).getD i d = l.getD i d := by simp [List.getD, List.getElem?_append_left (by omega : i < l.length)]
      rw [e]; exact hp i h1
    · subst h1
      have e : (l ++ [x]).getD i d = x := by simp [List.getD, ← hl]
      rw [e]; exact hx

section
variable {H : Type} {enc : TypeId × Value → H} {w : World} {spare : Nat → Bool} {held : Bool}

theorem spot_none {a : Addr} {sz : Nat} {cs : List Value} (hs : 0 < sz) (h : w.cells? 0 (a.add (0 * sz)) sz = some cs) : ∃ b off, a = ⟨b, off, none⟩ := by
  obtain ⟨b, off, spot⟩ := a
  obtain ⟨_, hl, hc⟩ := World.cells?_some h
  have h0 := hc 0 hs
  rw [List.getElem?_eq_getElem (by omega)] at h0
  have hsp := World.cell?_spot h0
  simp [Addr.add] at hsp
  exact ⟨b, off, by rw [hsp]⟩
/-- the cells of an element of a slice, one by one -/
theorem elem_cells {b off i sz : Nat} {cs : List Value} (hs : 0 < sz) (h : w.cells? 0 ((⟨b, off, none⟩ : Addr).add (i * sz)) sz = some cs) : b < w.heap.size ∧ cs.length = sz ∧ ∀ j, j < sz → w.cell? ⟨b, off + i * sz + j, none⟩ = cs[j]? := by
  rw [Go.WideShapes.add_plain] at h
  have hb := World.cells?_block h hs
  obtain ⟨_, hl, hc⟩ := World.cells?_some h
  exact ⟨hb, hl, fun j hj => by rw [← Go.WideShapes.add_plain b (off + i * sz) j]; exact hc j hj⟩

/-- a slice that can be read, whatever its elements are -/
theorem open_at {α : Type} {t e : TypeId} {fuel sz : Nat} {cs : List Value} {x : DataW H × List MemPlace} (d : α) (ht : Tryd.prog.underlying t = some (.slice e)) (hc : Tryd.prog.cellsOf e = sz) (hs : 0 < sz)
    (E : α → Nat → Nat → Prop)
    (hE : ∀ (n b o : Nat) (cs' : List Value) (y : DataW H × List MemPlace), DataW.trod enc Tryd.prog w 0 spare held n e cs' = some y → (∀ j, j < sz → w.cell? ⟨b, o + j, none⟩ = cs'[j]?) → ∃ x, E x b o)
    (h : DataW.trod enc Tryd.prog w 0 spare held fuel t cs = some x) : ∃ (v : Value) (l : List α), cs = [v] ∧ At w 0 v l.length sz (fun i b o => E (l.getD i d) b o) := by
  rcases open_slice ht h with ⟨hcs, _⟩ | ⟨a, len, cap, m, n, D, Pl, hcs, _, hl, hm, hmm, _, hx⟩
  · exact ⟨_, [], hcs, ⟨none, 0, rfl, Nat.le_refl _, Nat.zero_le _, fun i hi => absurd hi (Nat.not_lt_zero _)⟩⟩
  · rw [hc] at hx
    have hlm : len ≤ m := by rw [hmm]; split <;> omega
    rcases Nat.eq_zero_or_pos len with h0 | h0
    · subst h0
      exact ⟨_, [], hcs, ⟨some a, cap, rfl, Nat.zero_le _, hm, fun i hi => absurd hi (Nat.not_lt_zero _)⟩⟩
    · obtain ⟨cs0, hc0, _⟩ := hx 0 (by omega)
      obtain ⟨b, off, rfl⟩ := spot_none hs hc0
      obtain ⟨l, hll, hp⟩ := choose_list d (fun i x => b < w.heap.size ∧ E x b (off + i * sz)) len (fun i hi => by
        obtain ⟨cs', h1, h2⟩ := hx i (by omega)
        obtain ⟨hb, _, hcell⟩ := elem_cells hs h1
        obtain ⟨x, hx⟩ := hE _ b (off + i * sz) cs' _ h2 hcell
        exact ⟨x, hb, hx⟩)
      refine ⟨_, l, hcs, ⟨some ⟨b, off, none⟩, cap, by rw [hll], by omega, hm, fun i hi => ?_⟩⟩
      obtain ⟨hb, hx⟩ := hp i (by omega)
      exact ⟨b, off, rfl, hb, Nat.zero_le _, hx⟩
end
end Go.Proofs.YtggmjiddadjilaqDoor
