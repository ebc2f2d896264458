/-
  PROVED HERE: lines put together are the text; a line that is wider than told is a single word; plain theory.
-/
import Derived.Test.YtfkfgmfahoeaoaaLnS
import Derived.Test.YtfkfgmfahoeaoaaWdJoin
namespace Go.Proofs.Ytfkfgmfahoeaoaa
open Go.RowKit

theorem out_empty (q : Int) : lnOut (lnSt q []) = [] := by
  show (if 0 < (ByteArray.mk #[]).size then _ else _) = _
  rw [if_neg (by decide)]
  rfl
theorem out_pos {q : Int} {st : List ByteArray × ByteArray} (hok : LnOk st) (x : W30) : (lnOut (stepLn q st x.1)).length ≠ 0 := by
  by_cases h : (lnOut st).length = 0
  · rw [out_nil hok h]; simp
  · by_cases hq : q < ((lastLn (lnOut st)).size : Int) + 1 + x.1.size
    · rw [out_break hok h x hq]; simp
    · rw [out_fits hok h x hq]; simpa using h
theorem join_step {q : Int} {st : List ByteArray × ByteArray} (hok : LnOk st) (x : W30) : joinL (lnOut (stepLn q st x.1)) = if (lnOut st).length = 0 then x.1 else joinL (lnOut st) ++ ⟨#[32]⟩ ++ x.1 := by
  by_cases h : (lnOut st).length = 0
  · rw [if_pos h, out_nil hok h, List.eq_nil_of_length_eq_zero h]
    rfl
  · rw [if_neg h]
    have hne : lnOut st ≠ [] := fun e => h (by rw [e]; rfl)
    by_cases hq : q < ((lastLn (lnOut st)).size : Int) + 1 + x.1.size
    · rw [out_break hok h x hq, joinL_snoc _ _ hne]
    · rw [out_fits hok h x hq]
      obtain ⟨_, e1, e2⟩ := out_line h hok
      rw [e2, e1, List.length_append, List.length_singleton, Nat.add_sub_cancel, List.set_append_right _ _ (Nat.le_refl _), Nat.sub_self, List.set_cons_zero]
      by_cases h1 : st.1 = []
      · rw [h1]; rfl
      · rw [joinL_snoc _ _ h1, joinL_snoc _ _ h1]
        simp only [app_assoc]
theorem join_lines (q : Int) (ws : List W30) : ∀ k, k ≤ ws.length → joinL (lnOut (lnSt q (ws.take k))) = joinL ((ws.take k).map (fun x => x.1)) ∧ ((lnOut (lnSt q (ws.take k))).length = 0 ↔ k = 0)
  | 0, _ => by
    rw [List.take_zero]
    rw [out_empty]
    exact ⟨rfl, by simp⟩
  | k + 1, hk => by
    obtain ⟨h1, h2⟩ := join_lines q ws k (by omega)
    have hlt : k < ws.length := by omega
    have ht : (ws.take (k + 1)).map (fun x => x.1) = (ws.take k).map (fun x => x.1) ++ [ws[k].1] := by
      rw [List.take_add_one, List.map_append, List.getElem?_eq_getElem hlt]; rfl
    rw [lnSt_take hlt, join_step (lnOk_all q _), h1, ht]
    refine ⟨?_, ⟨fun e => absurd e (out_pos (lnOk_all q _) _), fun e => by omega⟩⟩
    by_cases h0 : k = 0
    · rw [if_pos (h2.2 h0)]
      subst h0
      rfl
    · rw [if_neg (fun e => h0 (h2.1 e)), joinL_snoc]
      intro e
      have := congrArg List.length e
      simp only [List.length_map, List.length_take, List.length_nil] at this
      omega
theorem lines_text {s : ByteArray} (hok : txtOkB s = true) (q : Int) : joinTo (lnOut (lnSt q (wordsW s))) (lnOut (lnSt q (wordsW s))).length = s := by
  have h := (join_lines q (wordsW s) (wordsW s).length (Nat.le_refl _)).1
  rw [List.take_length] at h
  rw [joinTo_take _ _ (Nat.le_refl _), List.take_length, h]
  have := join_words hok
  rw [joinTo_take _ _ (Nat.le_refl _), List.take_length] at this
  exact this
theorem line_or_word (q : Int) (ws : List W30) : ∀ k, k ≤ ws.length → ∀ y ∈ lnOut (lnSt q (ws.take k)), (y.size : Int) ≤ q ∨ ∃ x ∈ ws, y = x.1
  | 0, _ => by
    rw [List.take_zero]
    rw [out_empty]
    intro y hy
    cases hy
  | k + 1, hk => by
    have ih := line_or_word q ws k (by omega)
    have hlt : k < ws.length := by omega
    have hok := lnOk_all q (ws.take k)
    rw [lnSt_take hlt]
    intro y hy
    by_cases h : (lnOut (lnSt q (ws.take k))).length = 0
    · rw [out_nil hok h, List.mem_append] at hy
      rcases hy with hy | hy
      · exact ih y hy
      · exact .inr ⟨ws[k], List.getElem_mem hlt, by simpa using hy⟩
    · by_cases hq : q < ((lastLn (lnOut (lnSt q (ws.take k)))).size : Int) + 1 + (ws[k]).1.size
      · rw [out_break hok h _ hq, List.mem_append] at hy
        rcases hy with hy | hy
        · exact ih y hy
        · exact .inr ⟨ws[k], List.getElem_mem hlt, by simpa using hy⟩
      · rw [out_fits hok h _ hq] at hy
        rcases List.mem_or_eq_of_mem_set hy with hy | rfl
        · exact ih y hy
        · left
          rw [ByteArray.size_append, ByteArray.size_append]
          show (((lastLn (lnOut (lnSt q (ws.take k)))).size + 1 + (ws[k]).1.size : Nat) : Int) ≤ q
          omega
theorem wide_one {s : ByteArray} {q : Int} {y : ByteArray} (hy : y ∈ lnOut (lnSt q (wordsW s))) (h : q < (y.size : Int)) : (wordsW y).length = 1 := by
  rcases line_or_word q (wordsW s) (wordsW s).length (Nat.le_refl _) y (by rw [List.take_length]; exact hy) with h1 | ⟨x, hx, rfl⟩
  · omega
  · obtain ⟨i, hi, rfl⟩ := List.getElem_of_mem hx
    exact words_one hi
end Go.Proofs.Ytfkfgmfahoeaoaa
