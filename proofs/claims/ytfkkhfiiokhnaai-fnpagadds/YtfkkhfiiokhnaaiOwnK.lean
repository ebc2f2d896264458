/-
  PROVED HERE: small laws on rows that a call owns, whatever their elements are.
-/
import Derived.Test.YtfkkhfiiokhnaaiMem
import Derived.Laws.AppendOwn
namespace Go.Proofs.Ytfkkhfiiokhnaai
open Go.RowKit

theorem row_form {w : World} {base : Nat} {e : TypeId} {sz : Nat} {v : Value} {m : Nat} {xs : List Value} (h : w.ownsRow base e sz v m xs) : ∃ a cap, v = .slice a m cap ∧ m ≤ maxLen := by
  rcases h.2 with ⟨rfl, rfl⟩ | ⟨g, cap, cur, rfl, _, _, h1, h2, _⟩
  · exact ⟨none, 0, rfl, by unfold maxLen; omega⟩
  · exact ⟨_, cap, rfl, Nat.le_trans h1 h2⟩
/-- elements of so many cells, one behind the other -/
theorem flat_get {α : Type} (f : α → List Value) (sz : Nat) (hf : ∀ x, (f x).length = sz) (l : List α) (i : Nat) (hi : i < l.length) (j : Nat) (hj : j < sz) : (l.flatMap f)[i * sz + j]? = (f l[i])[j]? := by
  induction l generalizing i with
  | nil => simp at hi
  | cons a t ih =>
    rw [List.flatMap_cons]
    cases i with
    | zero => rw [List.getElem?_append_left (by rw [hf]; omega)]; simp
    | succ i =>
      rw [List.getElem?_append_right (by rw [hf, Nat.succ_mul]; omega), hf]
      have e : (i + 1) * sz + j - sz = i * sz + j := by rw [Nat.succ_mul]; omega
      rw [e, ih i (by simpa using hi)]
      simp
theorem flat_len {α : Type} (f : α → List Value) (sz : Nat) (hf : ∀ x, (f x).length = sz) (l : List α) : (l.flatMap f).length = l.length * sz := by
  induction l with
  | nil => simp
  | cons a t ih => rw [List.flatMap_cons, List.length_append, hf, ih, List.length_cons, Nat.succ_mul]; omega
theorem row_cell {w : World} {base : Nat} {e : TypeId} {sz : Nat} {m : Nat} {xs : List Value} {g cap : Nat} (h : w.ownsRow base e sz (.slice (some ⟨g, 0, none⟩) m cap) m xs) {k : Nat} {u : Value} (hk : xs[k]? = some u) : w.cell? ⟨g, k, none⟩ = some u := by
  have hl : k < xs.length := (List.getElem?_eq_some_iff.1 hk).1
  rcases h.2 with ⟨e, _⟩ | ⟨g', cap', cur, e, _, hc, _, _, _, ht⟩
  · simp at e
  · simp at e
    obtain ⟨rfl, rfl⟩ := e
    rw [cellB hc, ← Array.getElem?_toList]
    rw [← ht, List.getElem?_take_of_lt (by rw [h.1] at hl; exact hl)] at hk
    exact hk
theorem news_at {w : World} {g : Nat} {arr : Array Value} {t : TypeId} (h : w.heap[g]? = some (.cells arr t)) : ∀ j u, arr.toList[j]? = some u → w.cell? ((⟨g, 0, none⟩ : Addr).add j) = some u := fun j u hu => by
  have e : (⟨g, 0, none⟩ : Addr).add j = ⟨g, j, none⟩ := by simp [Addr.add]; intro h; exact h.symm
  rw [e, cellB h, ← Array.getElem?_toList]
  exact hu
end Go.Proofs.Ytfkkhfiiokhnaai
