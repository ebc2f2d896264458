/-
  PROVED HERE: the words of a text that is ok, with a word of two letters behind it, are its words and that word.
-/
import Derived.Test.YtgnaaeonklongamLnS
namespace Go.Proofs.Ytgnaaeonklongam
open Go.RowKit

/-- ' of' -/
def ofB : ByteArray := ⟨#[32, 111, 102]⟩
def ofW : W30 := ⟨⟨#[111, 102]⟩, by decide⟩
theorem more_size (s : ByteArray) : (s ++ ofB).size = s.size + 3 := by rw [ByteArray.size_append]; rfl
theorem ch_more_lo {s : ByteArray} {i : Nat} (h : i < s.size) : ch (s ++ ofB) i = ch s i := by
  have h1 : i < (s ++ ofB).size := by rw [more_size]; omega
  rw [ch_at h1, ch_at h, ByteArray.getElem_append_left h]
theorem ch_more_hi {s : ByteArray} {j : Nat} (hj : j < 3) : ch (s ++ ofB) (s.size + j) = ch ofB j := by
  have h1 : s.size + j < (s ++ ofB).size := by rw [more_size]; omega
  have h2 : j < ofB.size := hj
  rw [ch_at h1, ch_at h2, ByteArray.getElem_append_right (by omega)]
  simp
theorem ch_of : ch ofB 0 = 32 ∧ ch ofB 1 = 111 ∧ ch ofB 2 = 102 := by decide +kernel
theorem more_ok {s : ByteArray} (hok : txtOkB s = true) (hp : 0 < s.size) (h30 : s.size + 3 ≤ 30) : txtOkB (s ++ ofB) = true := by
  obtain ⟨_, hg⟩ := (txtOkB_iff s).1 hok
  obtain ⟨c0, c1, c2⟩ := ch_of
  have hlast : ch s (s.size - 1) ≠ 32 := fun hc => by
    have := hg (s.size - 1) (by omega)
    simp [goodB, hc] at this
    omega
  refine txtOkB_all (by rw [more_size]; exact h30) (fun i hi => ?_)
  rw [more_size] at hi
  by_cases hlt : i < s.size
  · have h1 := hg i hlt
    have e := ch_more_lo hlt
    unfold goodB at h1 ⊢
    rw [decide_eq_true_iff] at h1 ⊢
    rw [e, more_size]
    refine ⟨fun hc => ?_, h1.2⟩
    obtain ⟨a1, a2, a3⟩ := h1.1 hc
    refine ⟨a1, by omega, ?_⟩
    rw [ch_more_lo (by omega)]
    exact a3
  · obtain ⟨j, rfl⟩ : ∃ j, i = s.size + j := ⟨i - s.size, by omega⟩
    have hj : j < 3 := by omega
    unfold goodB
    rw [decide_eq_true_iff, ch_more_hi hj, more_size]
    rcases (by omega : j = 0 ∨ j = 1 ∨ j = 2) with rfl | rfl | rfl
    · rw [c0]
      refine ⟨fun _ => ⟨by omega, by omega, ?_⟩, fun h => absurd rfl h⟩
      rw [Nat.add_zero, ch_more_lo (by omega)]
      exact hlast
    · rw [c1]; exact ⟨fun h => absurd h (by decide), fun _ => by decide⟩
    · rw [c2]; exact ⟨fun h => absurd h (by decide), fun _ => by decide⟩
theorem wend_more {s : ByteArray} {i : Nat} (hi : i < s.size) : wend (s ++ ofB) i = wend s i := by
  obtain ⟨h1, h2, h3, h4⟩ := wend_spec s i (by omega)
  obtain ⟨c0, _, _⟩ := ch_of
  refine wend_of (fun j hj1 hj2 => by rw [ch_more_lo (by omega)]; exact h3 j hj1 hj2) h1 (by rw [more_size]; omega) (fun _ => ?_)
  rcases Nat.lt_or_eq_of_le h2 with hlt | heq
  · rw [ch_more_lo hlt]; exact h4 hlt
  · rw [heq, ← Nat.add_zero s.size, ch_more_hi (by omega)]; exact c0
theorem extract_more {s : ByteArray} {i e : Nat} (he : e ≤ s.size) : (s ++ ofB).extract i e = s.extract i e := by
  apply Go.WideShapes.bytes_inj
  have he' : e ≤ s.data.size := he
  rw [ByteArray.data_extract, ByteArray.data_extract, ByteArray.data_append, Array.toList_extract, Array.toList_extract, Array.toList_append]
  simp only [List.extract_eq_take_drop]
  rcases Nat.lt_or_ge i e with hlt | hge
  · rw [List.drop_append_of_le_length (by simp; omega), List.take_append_of_le_length (by simp; omega)]
  · rw [show e - i = 0 by omega, List.take_zero, List.take_zero]
theorem of_word {s : ByteArray} : (s ++ ofB).extract (s.size + 1) (s.size + 3) = ⟨#[111, 102]⟩ := by
  apply Go.WideShapes.bytes_inj
  have hl : s.data.toList.length = s.size := by simp
  rw [ByteArray.data_extract, ByteArray.data_append, Array.toList_extract, Array.toList_append]
  simp only [List.extract_eq_take_drop]
  rw [show s.size + 3 - (s.size + 1) = 2 by omega, List.drop_append, hl, List.drop_of_length_le (by omega), show s.size + 1 - s.size = 1 by omega]
  rfl
theorem words_more_from {s : ByteArray} (hok : txtOkB s = true) (h30 : s.size + 3 ≤ 30) (k : Nat) (hs : Start s k) (hk : k < s.size) : wordsFrom (s ++ ofB) k = wordsFrom s k ++ [⟨#[111, 102]⟩] := by
  obtain ⟨h1, h2, h3, _⟩ := start_next hok hk hs
  obtain ⟨_, _, _, h4⟩ := wend_spec s k (by omega)
  obtain ⟨_, c1, c2⟩ := ch_of
  rw [wordsFrom_go (by rw [more_size]; omega : k < (s ++ ofB).size), wordsFrom_go hk, wend_more hk, extract_more h2]
  by_cases he : wend s k < s.size
  · have hb := h4 he
    have hne : wend s k + 1 < s.size := by
      have hg := ((txtOkB_iff s).1 hok).2 _ he
      simp [goodB, hb] at hg
      omega
    rw [words_more_from hok h30 _ h3 hne]
    rfl
  · have e : wend s k = s.size := by omega
    have ew : wend (s ++ ofB) (s.size + 1) = s.size + 3 := wend_of (fun j hj1 hj2 => by
      rcases (by omega : j = s.size + 1 ∨ j = s.size + 2) with rfl | rfl
      · rw [ch_more_hi (by omega), c1]; decide
      · rw [ch_more_hi (by omega), c2]; decide) (by omega) (by rw [more_size]; omega) (fun h => by rw [more_size] at h; omega)
    rw [e, wordsFrom_go (by rw [more_size]; omega : s.size + 1 < (s ++ ofB).size), ew, of_word, wordsFrom_end (by rw [more_size]; omega : ¬ s.size + 3 + 1 < (s ++ ofB).size), wordsFrom_end (by omega : ¬ s.size + 1 < s.size)]
    rfl
termination_by s.size - k
theorem words_more {s : ByteArray} (hok : txtOkB s = true) (hp : 0 < s.size) (h30 : s.size + 3 ≤ 30) : wordsW (s ++ ofB) = wordsW s ++ [ofW] := by
  rw [wordsW, if_pos (more_ok hok hp h30), wordsW, if_pos hok, words_more_from hok h30 0 (start_zero hok) hp, List.map_append]
  rfl
end Go.Proofs.Ytgnaaeonklongam
