/-
  PROVED HERE: a line is a text; its first word would not have fitted behind the line ahead of it; plain theory.
-/
import Derived.Test.YtfkfgmfahoeaoaaLnJoin
import Derived.Test.YtfkfgmfahoeaoaaStrsL
namespace Go.Proofs.Ytfkfgmfahoeaoaa
open Go.RowKit

theorem ch_app_lo {a b : ByteArray} {i : Nat} (h : i < a.size) : ch (a ++ b) i = ch a i := by
  have h1 : i < (a ++ b).size := by rw [ByteArray.size_append]; omega
  rw [ch_at h1, ch_at h, ByteArray.getElem_append_left h]
theorem ch_app_hi {a b : ByteArray} {j : Nat} (hj : j < b.size) : ch (a ++ b) (a.size + j) = ch b j := by
  have h1 : a.size + j < (a ++ b).size := by rw [ByteArray.size_append]; omega
  rw [ch_at h1, ch_at hj, ByteArray.getElem_append_right (by omega)]
  simp
def WordP (x : ByteArray) : Prop := 0 < x.size ∧ ∀ j, j < x.size → 97 ≤ ch x j ∧ ch x j ≤ 122
theorem word_letters {s : ByteArray} (hok : txtOkB s = true) (i : Nat) (hs : Start s i) : ∀ x ∈ wordsFrom s i, WordP x := by
  intro x hx
  by_cases hi : i < s.size
  · obtain ⟨h1, h2, h3, h4⟩ := start_next hok hi hs
    obtain ⟨_, _, hn, _⟩ := wend_spec s i (by omega)
    rw [wordsFrom_go hi] at hx
    rcases List.mem_cons.1 hx with rfl | hx
    · generalize hw : wend s i = e at *
      have hsz : (s.extract i e).size = e - i := by rw [ByteArray.size_extract]; omega
      refine ⟨h4.1, fun j hj => ?_⟩
      rw [hsz] at hj
      rw [ch_extract h2 hj]
      have hne := hn (i + j) (by omega) (by omega)
      have hg := ((txtOkB_iff s).1 hok).2 (i + j) (by omega)
      simp [goodB, hne] at hg
      exact hg
    · exact word_letters hok _ h3 x hx
  · rw [wordsFrom_end hi] at hx; cases hx
termination_by s.size + 1 - i
decreasing_by omega
theorem words_letters {s : ByteArray} {x : W30} (hx : x ∈ wordsW s) : WordP x.1 := by
  cases hok : txtOkB s with
  | false =>
    have : wordsW s = [] := by rw [wordsW, if_neg (by rw [hok]; simp)]
    rw [this] at hx; cases hx
  | true =>
    refine word_letters hok 0 (start_zero hok) _ ?_
    rw [← words_val hok]
    exact List.mem_map.2 ⟨_, hx, rfl⟩
def blk : ByteArray := ⟨#[32]⟩
theorem blk_size : blk.size = 1 := rfl
theorem blk_ch : ch blk 0 = 32 := by decide +kernel
/-- a line: a text that is ok, and how long its first word is -/
structure LineP (y : ByteArray) (n : Nat) : Prop where
  ok : txtOkB y = true
  pos : 0 < n
  le : n ≤ y.size
  no : ∀ j, j < n → ch y j ≠ 32
  bl : n < y.size → ch y n = 32
theorem line_word {x : ByteArray} (h : WordP x) (h30 : x.size ≤ 30) : LineP x x.size := by
  refine ⟨txtOkB_all h30 (fun i hi => ?_), h.1, Nat.le_refl _, fun j hj => ?_, fun h => absurd h (Nat.lt_irrefl _)⟩
  · have := h.2 i hi
    unfold goodB
    rw [decide_eq_true_iff]
    exact ⟨fun e => by omega, fun _ => this⟩
  · have := h.2 j hj; omega
theorem line_app {y x : ByteArray} {n : Nat} (h : LineP y n) (hx : WordP x) (h30 : y.size + 1 + x.size ≤ 30) : LineP (y ++ blk ++ x) n := by
  obtain ⟨_, hg⟩ := (txtOkB_iff y).1 h.ok
  have hp : 0 < y.size := Nat.lt_of_lt_of_le h.pos h.le
  have hlast : ch y (y.size - 1) ≠ 32 := fun hc => by
    have := hg (y.size - 1) (by omega)
    simp [goodB, hc] at this
    omega
  have s1 : (y ++ blk).size = y.size + 1 := by rw [ByteArray.size_append, blk_size]
  have s2 : (y ++ blk ++ x).size = y.size + 1 + x.size := by rw [ByteArray.size_append, s1]
  have c1 : ∀ i, i < y.size → ch (y ++ blk ++ x) i = ch y i := fun i hi => by rw [ch_app_lo (by omega), ch_app_lo hi]
  have c2 : ch (y ++ blk ++ x) y.size = 32 := by
    rw [ch_app_lo (by omega)]
    have := ch_app_hi (a := y) (b := blk) (j := 0) (by decide)
    rw [Nat.add_zero] at this
    rw [this, blk_ch]
  have c3 : ∀ j, j < x.size → ch (y ++ blk ++ x) (y.size + 1 + j) = ch x j := fun j hj => by
    have := ch_app_hi (a := y ++ blk) (b := x) hj
    rwa [s1] at this
  refine ⟨txtOkB_all (by rw [s2]; exact h30) (fun i hi => ?_), h.pos, by have := h.le; omega, fun j hj => ?_, fun hn => ?_⟩
  · rw [s2] at hi
    have hx0 := hx.1
    by_cases h1 : i < y.size
    · have hgi := hg i h1
      unfold goodB at hgi ⊢
      rw [decide_eq_true_iff] at hgi ⊢
      rw [c1 i h1, s2]
      refine ⟨fun hc => ?_, hgi.2⟩
      obtain ⟨a1, a2, a3⟩ := hgi.1 hc
      exact ⟨a1, by omega, by rw [c1 _ (by omega)]; exact a3⟩
    · by_cases h2 : i = y.size
      · subst h2
        unfold goodB
        rw [decide_eq_true_iff, c2, s2]
        exact ⟨fun _ => ⟨by omega, by omega, by rw [c1 _ (by omega)]; exact hlast⟩, fun h => absurd rfl h⟩
      · obtain ⟨j, rfl⟩ : ∃ j, i = y.size + 1 + j := ⟨i - (y.size + 1), by omega⟩
        have hj := hx.2 j (by omega)
        unfold goodB
        rw [decide_eq_true_iff, c3 j (by omega)]
        exact ⟨fun e => by omega, fun _ => hj⟩
  · rw [c1 j (by have := h.le; omega)]; exact h.no j hj
  · by_cases h1 : n < y.size
    · rw [c1 n h1]; exact h.bl h1
    · have : n = y.size := by have := h.le; omega
      rw [this]; exact c2
theorem line_first {y : ByteArray} {n : Nat} (h : LineP y n) : ∃ x r, wordsW y = x :: r ∧ x.1.size = n := by
  have hp : 0 < y.size := Nat.lt_of_lt_of_le h.pos h.le
  have he : wend y 0 = n := wend_of (fun j _ hj => h.no j hj) (Nat.zero_le _) h.le h.bl
  rw [wordsW, if_pos h.ok, wordsFrom_go hp, he]
  refine ⟨toW (y.extract 0 n), _, rfl, ?_⟩
  have hsz : (y.extract 0 n).size = n := by rw [ByteArray.size_extract]; have := h.le; omega
  have h30 := ((txtOkB_iff y).1 h.ok).1
  rw [toW_of (by rw [hsz]; have := h.le; have := h.pos; omega)]
  exact hsz
theorem mem_joinL : ∀ {L : List ByteArray} {y : ByteArray}, y ∈ L → y.size ≤ (joinL L).size
  | [], _, h => by cases h
  | [x], y, h => by
    obtain rfl : y = x := by simpa using h
    exact Nat.le_refl _
  | x :: z :: r, y, h => by
    have e : (joinL (x :: z :: r)).size = x.size + 1 + (joinL (z :: r)).size := by
      show (x ++ ⟨#[32]⟩ ++ joinL (z :: r)).size = _
      rw [ByteArray.size_append, ByteArray.size_append]; rfl
    rcases List.mem_cons.1 h with rfl | h
    · omega
    · have := mem_joinL h; omega
theorem join_le {s : ByteArray} (hok : txtOkB s = true) {k : Nat} (hk : k ≤ (wordsW s).length) : (joinL (((wordsW s).take k).map (fun x => x.1))).size ≤ s.size := by
  have e1 := joinTo_len ((wordsW s).map (fun x => x.1)) k (by rw [List.length_map]; exact hk)
  have e2 := congrArg ByteArray.size (join_words hok)
  rw [joinTo_len _ _ (Nat.le_refl _)] at e2
  rw [joinTo_take _ _ (by rw [List.length_map]; exact hk), ← List.map_take] at e1
  have e3 := lnTo_le ((wordsW s).map (fun x => x.1)) k
  rw [List.length_map] at e2 e3
  omega
/-- each line but the first begins with a word that did not fit -/
def Lns (q : Int) (L : List ByteArray) : Prop := ∀ i, i < L.length → ∃ n, LineP (L.getD i eS) n ∧ (0 < i → q < ((L.getD (i - 1) eS).size : Int) + 1 + n)
theorem lns_snoc {q : Int} {L : List ByteArray} {x : ByteArray} (h : Lns q L) (hx : LineP x x.size) (hq : L.length ≠ 0 → q < ((lastLn L).size : Int) + 1 + x.size) : Lns q (L ++ [x]) := by
  intro i hi
  rw [List.length_append, List.length_singleton] at hi
  by_cases e : i < L.length
  · obtain ⟨n, h1, h2⟩ := h i e
    refine ⟨n, by simpa [List.getD, List.getElem?_append_left e] using h1, fun h0 => ?_⟩
    have := h2 h0
    rwa [show (L ++ [x]).getD (i - 1) eS = L.getD (i - 1) eS by simp [List.getD, List.getElem?_append_left (show i - 1 < L.length by omega)]]
  · obtain rfl : i = L.length := by omega
    refine ⟨x.size, by simpa [List.getD] using hx, fun h0 => ?_⟩
    have := hq (by omega)
    rwa [show (L ++ [x]).getD (L.length - 1) eS = lastLn L by simp [lastLn, List.getD, List.getElem?_append_left (show L.length - 1 < L.length by omega)]]
theorem lns_set {q : Int} {L : List ByteArray} {y : ByteArray} (h : Lns q L) (hy : ∀ n, LineP (lastLn L) n → LineP y n) : Lns q (L.set (L.length - 1) y) := by
  intro i hi
  rw [List.length_set] at hi
  obtain ⟨n, h1, h2⟩ := h i hi
  have hprev : 0 < i → (L.set (L.length - 1) y).getD (i - 1) eS = L.getD (i - 1) eS := fun h0 => by
    simp [List.getD, List.getElem?_set_ne (show L.length - 1 ≠ i - 1 by omega)]
  by_cases e : i = L.length - 1
  · subst e
    refine ⟨n, ?_, fun h0 => by rw [hprev h0]; exact h2 h0⟩
    have : (L.set (L.length - 1) y).getD (L.length - 1) eS = y := by simp [List.getD, hi]
    rw [this]
    exact hy n h1
  · refine ⟨n, ?_, fun h0 => by rw [hprev h0]; exact h2 h0⟩
    have : (L.set (L.length - 1) y).getD i eS = L.getD i eS := by simp [List.getD, List.getElem?_set_ne (Ne.symm e)]
    rw [this]
    exact h1
theorem lines_first {s : ByteArray} (hok : txtOkB s = true) (q : Int) : ∀ k, k ≤ (wordsW s).length → Lns q (lnOut (lnSt q ((wordsW s).take k)))
  | 0, _ => by
    rw [List.take_zero, out_empty]
    intro i hi
    cases hi
  | k + 1, hk => by
    have ih := lines_first hok q k (by omega)
    have hlt : k < (wordsW s).length := by omega
    have hlk := lnOk_all q ((wordsW s).take k)
    have hx := words_letters (s := s) (List.getElem_mem hlt)
    have hx30 := ((wordsW s)[k]).2.2
    have h30 := ((txtOkB_iff s).1 hok).1
    have hj := (join_lines q (wordsW s) (k + 1) hk).1
    have hle := join_le hok hk
    rw [← hj, lnSt_take hlt] at hle
    rw [lnSt_take hlt]
    by_cases h : (lnOut (lnSt q ((wordsW s).take k))).length = 0
    · rw [out_nil hlk h]
      exact lns_snoc ih (line_word hx hx30) (fun e => absurd h e)
    · by_cases hq : q < ((lastLn (lnOut (lnSt q ((wordsW s).take k)))).size : Int) + 1 + ((wordsW s)[k]).1.size
      · rw [out_break hlk h _ hq]
        exact lns_snoc ih (line_word hx hx30) (fun _ => hq)
      · rw [out_fits hlk h _ hq] at hle ⊢
        refine lns_set ih (fun n hn => line_app hn hx ?_)
        have hm := mem_joinL (List.mem_set (show (lnOut (lnSt q ((wordsW s).take k))).length - 1 < (lnOut (lnSt q ((wordsW s).take k))).length by omega) (lastLn (lnOut (lnSt q ((wordsW s).take k))) ++ ⟨#[32]⟩ ++ ((wordsW s)[k]).1))
        rw [ByteArray.size_append, ByteArray.size_append] at hm
        have e1 : (ByteArray.mk #[32]).size = 1 := rfl
        omega
/-- of lines of any text -/
theorem greedy (s : ByteArray) (q : Int) {i : Nat} (h0 : 0 < i) (hi : i < (lnOut (lnSt q (wordsW s))).length) : ∃ x r, wordsW ((lnOut (lnSt q (wordsW s))).getD i eS) = x :: r ∧ q < (((lnOut (lnSt q (wordsW s))).getD (i - 1) eS).size : Int) + 1 + x.1.size := by
  cases hok : txtOkB s with
  | false =>
    have : wordsW s = [] := by rw [wordsW, if_neg (by rw [hok]; simp)]
    rw [this, out_empty] at hi
    cases hi
  | true =>
    have h := lines_first hok q (wordsW s).length (Nat.le_refl _)
    rw [List.take_length] at h
    obtain ⟨n, h1, h2⟩ := h i hi
    obtain ⟨x, r, e1, e2⟩ := line_first h1
    exact ⟨x, r, e1, by rw [e2]; exact h2 h0⟩
end Go.Proofs.Ytfkfgmfahoeaoaa
