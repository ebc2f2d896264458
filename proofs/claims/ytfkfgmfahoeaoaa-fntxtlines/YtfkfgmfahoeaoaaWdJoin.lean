/-
  PROVED HERE: the words of a text that is ok, put together, are it; each is a text of one word.
-/
import Derived.Test.YtfkfgmfahoeaoaaWdCut
import Derived.Test.YtfkfgmfahoeaoaaStrsC
namespace Go.Proofs.Ytfkfgmfahoeaoaa
open Go.RowKit

/-- texts with one blank between any two, from the right -/
def joinL : List ByteArray → ByteArray
  | [] => ⟨#[]⟩
  | [x] => x
  | x :: y :: r => x ++ ⟨#[32]⟩ ++ joinL (y :: r)
theorem app_assoc (a b c : ByteArray) : a ++ b ++ c = a ++ (b ++ c) := Go.WideShapes.bytes_inj (by simp)
theorem joinL_snoc : ∀ (l : List ByteArray) (x : ByteArray), l ≠ [] → joinL (l ++ [x]) = joinL l ++ ⟨#[32]⟩ ++ x
  | [], _, h => absurd rfl h
  | [_], _, _ => rfl
  | y :: z :: r, x, _ => by
    have ih := joinL_snoc (z :: r) x (by simp)
    simp only [List.cons_append, joinL] at ih ⊢
    rw [ih]
    simp only [app_assoc]
theorem joinTo_take (ss : List ByteArray) : ∀ k, k ≤ ss.length → joinTo ss k = joinL (ss.take k)
  | 0, _ => by simp [joinTo, joinL]
  | k + 1, h => by
    have ih := joinTo_take ss k (by omega)
    have hk : k < ss.length := h
    rw [joinTo, List.take_succ_eq_append_getElem hk]
    have e : ss.getD k dS = ss[k] := by simp [List.getD, hk]
    split
    · rename_i h0
      subst h0
      simp [joinL, List.getD, hk]
    · rename_i h0
      rw [ih, e, joinL_snoc _ _ (by intro hn; have h5 := congrArg List.length hn; rw [List.length_take, List.length_nil] at h5; omega)]
theorem extract_join {s : ByteArray} {i e : Nat} (h1 : i ≤ e) (h2 : e ≤ s.size) : s.extract i e ++ s.extract e s.size = s.extract i s.size := by
  exact (ByteArray.extract_eq_extract_append_extract e h1 h2).symm
theorem join_from {s : ByteArray} (hok : txtOkB s = true) (i : Nat) (hi : i < s.size) (hs : Start s i) : joinL (wordsFrom s i) = s.extract i s.size := by
  obtain ⟨h1, h2, h3, _⟩ := start_next hok hi hs
  obtain ⟨_, _, _, h4⟩ := wend_spec s i (by omega)
  rw [wordsFrom_go hi]
  by_cases he : wend s i < s.size
  · have hb := h4 he
    have hne : wend s i + 1 < s.size := by
      have hg := ((txtOkB_iff s).1 hok).2 _ he
      simp [goodB, hb] at hg
      omega
    have ih := join_from hok (wend s i + 1) hne h3
    rw [wordsFrom_go hne] at ih ⊢
    rw [joinL, ih]
    have hc : s[wend s i] = 32 := by
      rw [ch_at he] at hb
      apply UInt8.toNat_inj.1
      have : s[wend s i].toNat = 32 := by omega
      rw [this]; rfl
    have e1 := extract_next (s := s) (j := i) (k := wend s i) (by omega) he
    rw [hc] at e1
    rw [e1, extract_join (by omega) (by omega)]
  · have e : wend s i = s.size := by omega
    rw [wordsFrom_end (by omega), joinL, e]
termination_by s.size - i
theorem empty_of {s : ByteArray} (h : s.size = 0) : (⟨#[]⟩ : ByteArray) = s := Go.WideShapes.bytes_inj (by
  have : s.data.size = 0 := h
  simp [Array.eq_empty_of_size_eq_zero this])
theorem extract_all (s : ByteArray) : s.extract 0 s.size = s := ByteArray.extract_zero_size
/-- the words of a text that is ok, put together, are it -/
theorem join_words {s : ByteArray} (hok : txtOkB s = true) : joinTo ((wordsW s).map (fun x => x.1)) ((wordsW s).map (fun x => x.1)).length = s := by
  rw [words_val hok, joinTo_take _ _ (Nat.le_refl _), List.take_length]
  by_cases h : 0 < s.size
  · rw [join_from hok 0 h (start_zero hok), extract_all]
  · rw [wordsFrom_end h, joinL]; exact empty_of (by omega)
theorem ch_extract {s : ByteArray} {i e j : Nat} (he : e ≤ s.size) (hj : j < e - i) : ch (s.extract i e) j = ch s (i + j) := by
  have h1 : j < (s.extract i e).size := by rw [ByteArray.size_extract]; omega
  have h2 : i + j < s.size := by omega
  rw [ch_at h1, ch_at h2, ByteArray.getElem_extract]
theorem word_one {s : ByteArray} (hok : txtOkB s = true) (i : Nat) (hs : Start s i) : ∀ x ∈ wordsFrom s i, (wordsW x).length = 1 := by
  intro x hx
  by_cases hi : i < s.size
  · obtain ⟨h1, h2, h3, h4⟩ := start_next hok hi hs
    obtain ⟨_, _, hn, _⟩ := wend_spec s i (by omega)
    rw [wordsFrom_go hi] at hx
    rcases List.mem_cons.1 hx with rfl | hx
    · generalize hw : wend s i = e at *
      have hsz : (s.extract i e).size = e - i := by rw [ByteArray.size_extract]; omega
      have hx : ∀ j, j < (s.extract i e).size → ch (s.extract i e) j ≠ 32 ∧ 97 ≤ ch (s.extract i e) j ∧ ch (s.extract i e) j ≤ 122 := fun j hj => by
        rw [hsz] at hj
        rw [ch_extract h2 hj]
        have hne := hn (i + j) (by omega) (by omega)
        have hg := ((txtOkB_iff s).1 hok).2 (i + j) (by omega)
        simp [goodB, hne] at hg
        exact ⟨hne, hg⟩
      have hokx : txtOkB (s.extract i e) = true := txtOkB_all h4.2 (fun j hj => by
        obtain ⟨a1, a2, a3⟩ := hx j hj
        simp [goodB, a1, a2, a3])
      rw [words_len hokx, wordsFrom_go h4.1, wend_of (e := (s.extract i e).size) (fun j _ hj => (hx j hj).1) (Nat.zero_le _) (Nat.le_refl _) (fun h => absurd h (Nat.lt_irrefl _)), wordsFrom_end (by omega)]
      rfl
    · exact word_one hok _ h3 x hx
  · rw [wordsFrom_end hi] at hx; cases hx
termination_by s.size + 1 - i
decreasing_by omega
theorem words_one {s : ByteArray} {k : Nat} (h : k < (wordsW s).length) : (wordsW (wordsW s)[k].1).length = 1 := by
  cases hok : txtOkB s with
  | false =>
    have : wordsW s = [] := by rw [wordsW, if_neg (by rw [hok]; simp)]
    rw [this] at h; cases h
  | true =>
    refine word_one hok 0 (start_zero hok) _ ?_
    rw [← words_val hok]
    exact List.mem_map.2 ⟨_, List.getElem_mem h, rfl⟩
end Go.Proofs.Ytfkfgmfahoeaoaa
