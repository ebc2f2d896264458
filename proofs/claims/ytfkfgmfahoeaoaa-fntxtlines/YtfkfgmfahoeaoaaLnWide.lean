/-
  PROVED HERE: with more room there are no more lines; with all the room that a text wishes there is one, if it has words; no line is wider than told, but a word.
-/
import Derived.Test.YtfkfgmfahoeaoaaLnS
import Derived.Test.YtfkfgmfahoeaoaaWdJoin
import Derived.Test.YtfkfgmfahoeaoaaWdLeast
namespace Go.Proofs.Ytfkfgmfahoeaoaa
open Go.RowKit

/-- how many lines, and how long the last one is: no more, in this order -/
def LeLn (a b : List ByteArray × ByteArray) : Prop := (lnOut a).length < (lnOut b).length ∨ (lnOut a).length = (lnOut b).length ∧ a.2.size ≤ b.2.size
theorem cnt_nil {q : Int} {st : List ByteArray × ByteArray} (h : ¬ 0 < st.2.size) (x : W30) : (lnOut (stepLn q st x.1)).length = (lnOut st).length + 1 ∧ (stepLn q st x.1).2.size = x.1.size := by
  have hx := x.2.1
  have e : stepLn q st x.1 = (st.1, x.1) := by unfold stepLn; rw [if_neg h]
  rw [e]
  simp [lnOut, h, hx]
theorem cnt_break {q : Int} {st : List ByteArray × ByteArray} (h : 0 < st.2.size) (x : W30) (hq : q < (st.2.size : Int) + 1 + x.1.size) : (lnOut (stepLn q st x.1)).length = (lnOut st).length + 1 ∧ (stepLn q st x.1).2.size = x.1.size := by
  have hx := x.2.1
  have e : stepLn q st x.1 = (st.1 ++ [st.2], x.1) := by unfold stepLn; rw [if_pos h, if_pos hq]
  rw [e]
  simp [lnOut, h, hx]
theorem cnt_fits {q : Int} {st : List ByteArray × ByteArray} (h : 0 < st.2.size) (x : W30) (hq : ¬ q < (st.2.size : Int) + 1 + x.1.size) : (lnOut (stepLn q st x.1)).length = (lnOut st).length ∧ (stepLn q st x.1).2.size = st.2.size + 1 + x.1.size := by
  have e : stepLn q st x.1 = (st.1, st.2 ++ ⟨#[32]⟩ ++ x.1) := by unfold stepLn; rw [if_pos h, if_neg hq]
  have hz : (st.2 ++ ⟨#[32]⟩ ++ x.1).size = st.2.size + 1 + x.1.size := by rw [ByteArray.size_append, ByteArray.size_append]; rfl
  rw [e]
  refine ⟨?_, hz⟩
  have hp : 0 < (st.2 ++ ⟨#[32]⟩ ++ x.1).size := by omega
  simp only [lnOut, hp, h, if_true, List.length_append, List.length_cons, List.length_nil]
/-- a line is being built just where there are lines -/
theorem cnt_zero {st : List ByteArray × ByteArray} (hok : LnOk st) : (¬ 0 < st.2.size → (lnOut st).length = 0) ∧ (0 < st.2.size → 0 < (lnOut st).length) := by
  refine ⟨fun h => ?_, fun h => ?_⟩
  · have : st.1 = [] := hok (by omega)
    simp [lnOut, h, this]
  · simp [lnOut, h]
theorem wider_step {p q : Int} (hpq : p ≤ q) {a b : List ByteArray × ByteArray} (ha : LnOk a) (hb : LnOk b) (h : LeLn a b) (x : W30) : LeLn (stepLn q a x.1) (stepLn p b x.1) := by
  have hx := x.2.1
  obtain ⟨za, za'⟩ := cnt_zero ha
  obtain ⟨zb, zb'⟩ := cnt_zero hb
  unfold LeLn at h ⊢
  by_cases h1 : 0 < a.2.size
  · have c1 := za' h1
    have h2 : 0 < b.2.size := by
      by_cases h2 : 0 < b.2.size
      · exact h2
      · have := zb h2; omega
    by_cases qa : q < (a.2.size : Int) + 1 + x.1.size
    · obtain ⟨e1, e2⟩ := cnt_break h1 x qa
      by_cases qb : p < (b.2.size : Int) + 1 + x.1.size
      · obtain ⟨e3, e4⟩ := cnt_break h2 x qb; omega
      · obtain ⟨e3, e4⟩ := cnt_fits h2 x qb; omega
    · obtain ⟨e1, e2⟩ := cnt_fits h1 x qa
      by_cases qb : p < (b.2.size : Int) + 1 + x.1.size
      · obtain ⟨e3, e4⟩ := cnt_break h2 x qb; omega
      · obtain ⟨e3, e4⟩ := cnt_fits h2 x qb; omega
  · have c1 := za h1
    obtain ⟨e1, e2⟩ := cnt_nil (q := q) h1 x
    by_cases h2 : 0 < b.2.size
    · have := zb' h2
      by_cases qb : p < (b.2.size : Int) + 1 + x.1.size
      · obtain ⟨e3, e4⟩ := cnt_break h2 x qb; omega
      · obtain ⟨e3, e4⟩ := cnt_fits h2 x qb; omega
    · obtain ⟨e3, e4⟩ := cnt_nil (q := p) h2 x
      have := zb h2
      omega
theorem wider {p q : Int} (hpq : p ≤ q) (ws : List W30) : (lnOut (lnSt q ws)).length ≤ (lnOut (lnSt p ws)).length := by
  suffices h : ∀ (l : List W30) (a b : List ByteArray × ByteArray), LnOk a → LnOk b → LeLn a b → LeLn (l.foldl (fun st x => stepLn q st x.1) a) (l.foldl (fun st x => stepLn p st x.1) b) by
    have := h ws ([], ⟨#[]⟩) ([], ⟨#[]⟩) (fun _ => rfl) (fun _ => rfl) (Or.inr ⟨rfl, Nat.le_refl _⟩)
    unfold LeLn at this
    have e1 : lnSt q ws = ws.foldl (fun st x => stepLn q st x.1) ([], ⟨#[]⟩) := rfl
    have e2 : lnSt p ws = ws.foldl (fun st x => stepLn p st x.1) ([], ⟨#[]⟩) := rfl
    rw [e1, e2]
    omega
  intro l
  induction l with
  | nil => intro a b _ _ h; exact h
  | cons x r ih => intro a b ha hb h; exact ih _ _ (lnOk_step q a x) (lnOk_step p b x) (wider_step hpq ha hb h x)
/-- no line is wider than told, but a word -/
theorem line_le {q : Int} {n : Nat} (hq : q ≤ (n : Int)) (ws : List W30) (hw : ∀ x ∈ ws, x.1.size ≤ n) : ∀ y ∈ lnOut (lnSt q ws), y.size ≤ n := by
  suffices h : ∀ (l : List W30) (st : List ByteArray × ByteArray), (∀ x ∈ l, x.1.size ≤ n) → (∀ y ∈ st.1, y.size ≤ n) → st.2.size ≤ n → (∀ y ∈ (l.foldl (fun st x => stepLn q st x.1) st).1, y.size ≤ n) ∧ (l.foldl (fun st x => stepLn q st x.1) st).2.size ≤ n by
    obtain ⟨h1, h2⟩ := h ws ([], ⟨#[]⟩) hw (fun y hy => by cases hy) (Nat.zero_le _)
    intro y hy
    unfold lnOut at hy
    split at hy
    · rcases List.mem_append.1 hy with hy | hy
      · exact h1 y hy
      · simp at hy; subst hy; exact h2
    · exact h1 y hy
  intro l
  induction l with
  | nil => intro st _ h1 h2; exact ⟨h1, h2⟩
  | cons x r ih =>
    intro st hx h1 h2
    have hx1 := hx x (List.mem_cons_self ..)
    refine ih _ (fun y hy => hx y (List.mem_cons_of_mem _ hy)) ?_ ?_
    · show ∀ y ∈ (stepLn q st x.1).1, y.size ≤ n
      unfold stepLn
      by_cases c1 : 0 < st.2.size
      · by_cases c2 : q < (st.2.size : Int) + 1 + x.1.size
        · rw [if_pos c1, if_pos c2]
          intro y hy
          rcases List.mem_append.1 hy with hy | hy
          · exact h1 y hy
          · simp at hy; subst hy; exact h2
        · rw [if_pos c1, if_neg c2]; exact h1
      · rw [if_neg c1]; exact h1
    · show (stepLn q st x.1).2.size ≤ n
      by_cases c1 : 0 < st.2.size
      · by_cases c2 : q < (st.2.size : Int) + 1 + x.1.size
        · rw [(cnt_break c1 x c2).2]; exact hx1
        · rw [(cnt_fits c1 x c2).2]; omega
      · rw [(cnt_nil (q := q) c1 x).2]; exact hx1
/-- at a width that all words fit into there is one line at most -/
theorem one_line {q : Int} (ws : List W30) (hq : (((ws.map (fun x => x.1.size)).sum + ws.length : Nat) : Int) ≤ q + 1) : (lnOut (lnSt q ws)).length = if ws.length = 0 then 0 else 1 := by
  suffices h : ∀ (l : List W30) (st : List ByteArray × ByteArray), LnOk st → st.1 = [] → (st.2.size : Int) + (((l.map (fun x => x.1.size)).sum + l.length : Nat) : Int) ≤ q + (if 0 < st.2.size then 0 else 1) → (lnOut (l.foldl (fun st x => stepLn q st x.1) st)).length = if l.length = 0 then (lnOut st).length else 1 by
    have := h ws ([], ⟨#[]⟩) (fun _ => rfl) rfl (by have e : (ByteArray.mk #[]).size = 0 := rfl; simp only [e]; simpa using hq)
    exact this
  intro l
  induction l with
  | nil => intro st _ _ _; rfl
  | cons x r ih =>
    intro st hok h1 h2
    have hx := x.2.1
    simp only [List.map_cons, List.sum_cons, List.length_cons] at h2
    by_cases c1 : 0 < st.2.size
    · rw [if_pos c1] at h2
      have c2 : ¬ q < (st.2.size : Int) + 1 + x.1.size := by push_cast at h2; omega
      obtain ⟨e1, e2⟩ := cnt_fits c1 x c2
      have e3 : (stepLn q st x.1).1 = [] := by unfold stepLn; rw [if_pos c1, if_neg c2]; exact h1
      have := ih _ (lnOk_step q st x) e3 (by rw [if_pos (by omega), e2]; push_cast at h2 ⊢; omega)
      rw [List.foldl_cons, this, e1]
      have e4 : (lnOut st).length = 1 := by simp [lnOut, c1, h1]
      rw [e4]
      simp
    · rw [if_neg c1] at h2
      obtain ⟨e1, e2⟩ := cnt_nil (q := q) c1 x
      have e3 : (stepLn q st x.1).1 = [] := by unfold stepLn; rw [if_neg c1]; exact h1
      have := ih _ (lnOk_step q st x) e3 (by rw [if_pos (by omega), e2]; push_cast at h2 ⊢; omega)
      rw [List.foldl_cons, this, e1]
      have e4 : (lnOut st).length = 0 := by simp [lnOut, c1, h1]
      rw [e4]
      simp
end Go.Proofs.Ytfkfgmfahoeaoaa
