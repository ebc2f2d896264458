/-
  PROVED HERE: lists of texts that own their memory, for the other texts of this claim.
-/
import Derived.Test.YtfkfgmfahoeaoaaMem
import Derived.Test.YtfkfgmfahoeaoaaTbl
import Derived.Laws.AppendOwn
namespace Go.Proofs.Ytfkfgmfahoeaoaa
open Go.RowKit

def eS : ByteArray := ByteArray.empty
/-- a list of texts, in a block of its own, at B or behind it -/
def RowS (w : World) (B : Nat) (v : Value) (l : List ByteArray) : Prop :=
  (v = .slice none 0 0 ∧ l = []) ∨ ∃ g cap cur, v = .slice (some ⟨g, 0, none⟩) l.length cap ∧ B ≤ g ∧ w.heap[g]? = some (.cells cur 9 (0, 0)) ∧ l.length ≤ cap ∧ cap ≤ maxLen ∧ cur.size = cap ∧ ∀ i, i < l.length → cur[i]? = some (.string (l.getD i eS))
theorem RowS.of_owns {w : World} {B : Nat} {v : Value} {l : List ByteArray} (h : w.ownsRow B 9 1 v l.length (l.map Value.string)) : RowS w B v l := by
  rcases h.2 with ⟨hv, h0⟩ | ⟨g, cap, cur, hv, hb, hg, h1, h2, h3, h4⟩
  · exact .inl ⟨hv, List.eq_nil_of_length_eq_zero h0⟩
  · refine .inr ⟨g, cap, cur, hv, hb, hg, h1, h2, by omega, fun i hi => ?_⟩
    have : cur.toList[i]? = (l.map Value.string)[i]? := by rw [← h4, List.getElem?_take_of_lt (by omega)]
    rw [← Array.getElem?_toList, this]
    simp [List.getD, hi]
theorem RowS.below {w w' : World} {B C : Nat} {v : Value} {l : List ByteArray} (h : RowS w B v l) (k : Below C w w') (hC : w.heap.size ≤ C) : RowS w' B v l := by
  rcases h with h | ⟨g, cap, cur, hv, hb, hg, r⟩
  · exact .inl h
  · exact .inr ⟨g, cap, cur, hv, hb, (k.block g (Nat.lt_of_lt_of_le (Array.getElem?_eq_some_iff.1 hg).1 hC)).trans hg, r⟩
/-- a list keeps where what lies below a place keeps, if it lay below that when it was made -/
theorem RowS.under {w0 w w' : World} {B C : Nat} {v : Value} {l : List ByteArray} (h : RowS w0 B v l) (k : Below w0.heap.size w0 w) (k' : Below C w w') (hC : w0.heap.size ≤ C) : RowS w' B v l := by
  rcases h with h | ⟨g, cap, cur, hv, hb, hg, r⟩
  · exact .inl h
  · have hlt := (Array.getElem?_eq_some_iff.1 hg).1
    exact .inr ⟨g, cap, cur, hv, hb, (k'.block g (Nat.lt_of_lt_of_le hlt hC)).trans ((k.block g hlt).trans hg), r⟩
theorem RowS.base {w : World} {B B' : Nat} {v : Value} {l : List ByteArray} (h : RowS w B v l) (hB : B' ≤ B) : RowS w B' v l := by
  rcases h with h | ⟨g, cap, cur, hv, hb, r⟩
  · exact .inl h
  · exact .inr ⟨g, cap, cur, hv, Nat.le_trans hB hb, r⟩
theorem ownsRow_keptS {w w' : World} {base size n : Nat} {e : TypeId} {v : Value} {xs : List Value} (h : w.ownsRow base e size v n xs) (hb : Below w.heap.size w w') : w'.ownsRow base e size v n xs :=
  ⟨h.1, h.2.elim Or.inl (fun ⟨g, cap, cur, hv, hg, hc, r⟩ => Or.inr ⟨g, cap, cur, hv, hg, (hb.block g (Array.getElem?_eq_some_iff.1 hc).1).trans hc, r⟩)⟩
theorem RowS.form {w : World} {B : Nat} {v : Value} {l : List ByteArray} (h : RowS w B v l) : ∃ a cap, v = .slice a l.length cap := by
  rcases h with ⟨rfl, rfl⟩ | ⟨g, cap, cur, hv, _⟩
  · exact ⟨none, 0, rfl⟩
  · exact ⟨_, _, hv⟩
theorem RowS.get {w : World} {B : Nat} {v : Value} {l : List ByteArray} (h : RowS w B v l) {i : Nat} (hi : i < l.length) :
    ∃ g cap, v = .slice (some ⟨g, 0, none⟩) l.length cap ∧ B ≤ g ∧ g < w.heap.size ∧ l.length ≤ cap ∧ cap ≤ maxLen ∧ w.cell? ⟨g, i, none⟩ = some (.string (l.getD i eS)) ∧ w.frozen? ⟨g, i, none⟩ = false := by
  rcases h with ⟨_, rfl⟩ | ⟨g, cap, cur, hv, hb, hg, h1, h2, h3, h4⟩
  · cases hi
  · exact ⟨g, cap, hv, hb, (Array.getElem?_eq_some_iff.1 hg).1, h1, h2, (cellB hg).trans (h4 i hi), freeB hg⟩
theorem RowS.set {w : World} {B g cap n : Nat} {l : List ByteArray} (h : RowS w B (.slice (some ⟨g, 0, none⟩) n cap) l) {i : Nat} (hi : i < l.length) (x : ByteArray) : RowS (w.setCell ⟨g, i, none⟩ (.string x)) B (.slice (some ⟨g, 0, none⟩) n cap) (l.set i x) := by
  rcases h with ⟨hv, _⟩ | ⟨g', cap', cur, hv, hb, hg, h1, h2, h3, h4⟩
  · simp at hv
  · simp only [Value.slice.injEq, Option.some.injEq, Addr.mk.injEq, and_true] at hv
    obtain ⟨rfl, rfl, rfl⟩ := hv
    refine .inr ⟨g, cap, cur.setIfInBounds i (.string x), by simp, hb, setB hg _, by simpa using h1, h2, by simpa using h3, fun j hj => ?_⟩
    rw [List.length_set] at hj
    by_cases e : i = j
    · subst e
      simp [List.getD, hj, show i < cur.size by omega]
    · rw [Array.getElem?_setIfInBounds_ne e, h4 j hj]
      simp [List.getD, e]
end Go.Proofs.Ytfkfgmfahoeaoaa
