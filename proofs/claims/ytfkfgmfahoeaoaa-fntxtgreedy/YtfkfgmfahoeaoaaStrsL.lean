/-
  PROVED HERE: lists of texts that own their memory are lists of texts in memory; how long texts are, put together.
-/
import Derived.Test.YtfkfgmfahoeaoaaStrsC
import Derived.Laws.AppendOwn
namespace Go.Proofs.Ytfkfgmfahoeaoaa
open Go.RowKit

theorem strs_of_row {w : World} {B : Nat} {v : Value} {l : List ByteArray} (h : w.ownsRow B 9 1 v l.length (l.map Value.string)) (hs : ∀ x ∈ l, x.size ≤ 61) : StrsAt w B v l := by
  unfold StrsAt
  rcases h.2 with ⟨hv, h0⟩ | ⟨g, cap, cur, hv, hb, hg, h1, h2, h3, h4⟩
  · exact ⟨none, 0, by rw [h0]; exact hv, by omega, Nat.zero_le _, fun i hi => by omega⟩
  · refine ⟨some ⟨g, 0, none⟩, cap, hv, h1, h2, fun i hi => ⟨g, 0, rfl, (Array.getElem?_eq_some_iff.1 hg).1, hb, ?_, ?_⟩⟩
    · have : cur.toList[i]? = (l.map Value.string)[i]? := by rw [← h4, List.getElem?_take_of_lt (by omega)]
      rw [Nat.zero_add, Nat.mul_one, cellB hg, ← Array.getElem?_toList, this]
      simp [List.getD, hi]
    · have := hs l[i] (List.getElem_mem hi)
      unfold maxLen
      simp [List.getD, hi]
      omega
theorem joinTo_len (ss : List ByteArray) : ∀ k, k ≤ ss.length → (joinTo ss k).size = lnTo ss k + (k - 1)
  | 0, _ => by simp [joinTo, lnTo]; rfl
  | k + 1, h => by
    have ih := joinTo_len ss k (by omega)
    have hs := lnTo_succ (ss := ss) (k := k) (by omega)
    rw [joinTo]
    split
    · rename_i h0
      subst h0
      have : lnTo ss 0 = 0 := by simp [lnTo]
      omega
    · rw [ByteArray.size_append, ByteArray.size_append]
      have : (ByteArray.mk #[32]).size = 1 := rfl
      omega
end Go.Proofs.Ytfkfgmfahoeaoaa
