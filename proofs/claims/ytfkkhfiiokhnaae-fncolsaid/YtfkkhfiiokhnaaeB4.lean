/-
  PROVED HERE: the words of a text, and what the program's own wordEnd and wordsOf answer; nothing that was in memory is turned. Also: the program's own iterator over the words of a text, for every loop that goes over it; nothing that was in memory is turned. Also: what the program's TxtLeast answers: how long the longest of a text's words is; nothing that was in memory is turned.
-/
import Derived.Test.YtfkkhfiiokhnaaeB1
import Derived.RangeFuncNested
import Derived.RangeFuncBound
import Derived.RangeFuncCalls
import Derived.RangeFuncLeaves
import Derived.Shelf.Abstract
import Derived.Shelf.RegionOpen
import Derived.WalkKit
import Derived.OwnWalkIn
import Derived.TacticsInMore
import Derived.LoopNIn
import Derived.LoopIn
import Derived.RangeFuncFrom
namespace Go.Proofs.Ytfkkhfiiokhnaae
open Go.RowKit Go.Shelf

/-- where the word that begins at a place ends -/
def wend (s : ByteArray) (i : Nat) : Nat := if i < s.size ∧ ch s i ≠ 32 then wend s (i + 1) else i
termination_by s.size - i
theorem wend_go {s : ByteArray} {i : Nat} (h1 : i < s.size) (h2 : ch s i ≠ 32) : wend s i = wend s (i + 1) := by rw [wend, if_pos ⟨h1, h2⟩]
theorem wend_blank {s : ByteArray} {i : Nat} (h2 : ch s i = 32) : wend s i = i := by rw [wend, if_neg (fun h => h.2 h2)]
theorem wend_end {s : ByteArray} {i : Nat} (h1 : ¬ i < s.size) : wend s i = i := by rw [wend, if_neg (fun h => h1 h.1)]
theorem wend_spec (s : ByteArray) (i : Nat) (hi : i ≤ s.size) : i ≤ wend s i ∧ wend s i ≤ s.size ∧ (∀ j, i ≤ j → j < wend s i → ch s j ≠ 32) ∧ (wend s i < s.size → ch s (wend s i) = 32) := by
  by_cases h : i < s.size ∧ ch s i ≠ 32
  · rw [wend_go h.1 h.2]
    obtain ⟨h1, h2, h3, h4⟩ := wend_spec s (i + 1) (by omega)
    refine ⟨by omega, h2, fun j hj1 hj2 => ?_, h4⟩
    rcases Nat.lt_or_eq_of_le hj1 with hlt | rfl
    · exact h3 j hlt hj2
    · exact h.2
  · rw [wend, if_neg h]
    exact ⟨Nat.le_refl _, hi, fun j h1 h2 => absurd h2 (by omega), fun hlt => Classical.byContradiction (fun hc => h ⟨hlt, hc⟩)⟩
termination_by s.size - i
theorem wend_of {s : ByteArray} {i e : Nat} (h : ∀ j, i ≤ j → j < e → ch s j ≠ 32) (hie : i ≤ e) (he : e ≤ s.size) (hb : e < s.size → ch s e = 32) : wend s i = e := by
  rcases Nat.lt_or_eq_of_le hie with hlt | rfl
  · rw [wend_go (by omega) (h i (Nat.le_refl _) hlt)]
    exact wend_of (fun j h1 h2 => h j (by omega) h2) hlt he hb
  · by_cases hs : i < s.size
    · exact wend_blank (hb hs)
    · exact wend_end hs
termination_by e - i
theorem wend_ge (s : ByteArray) (i : Nat) : i ≤ wend s i := by
  by_cases h : i < s.size ∧ ch s i ≠ 32
  · rw [wend_go h.1 h.2]
    have := wend_ge s (i + 1)
    omega
  · rw [wend, if_neg h]
    exact Nat.le_refl _
termination_by s.size - i

/-- the words from a place on -/
def wordsFrom (s : ByteArray) (i : Nat) : List ByteArray := if i < s.size then s.extract i (wend s i) :: wordsFrom s (wend s i + 1) else []
termination_by s.size - i
decreasing_by have := wend_ge s i; omega
theorem wordsFrom_go {s : ByteArray} {i : Nat} (h : i < s.size) : wordsFrom s i = s.extract i (wend s i) :: wordsFrom s (wend s i + 1) := by rw [wordsFrom, if_pos h]
theorem wordsFrom_end {s : ByteArray} {i : Nat} (h : ¬ i < s.size) : wordsFrom s i = [] := by rw [wordsFrom, if_neg h]

/-- a word: of one byte at least, and thirty at most -/
abbrev W30 := { x : ByteArray // 0 < x.size ∧ x.size ≤ 30 }
theorem one97 : 0 < (ByteArray.mk #[97]).size ∧ (ByteArray.mk #[97]).size ≤ 30 := by decide
def toW (x : ByteArray) : W30 := if h : 0 < x.size ∧ x.size ≤ 30 then ⟨x, h⟩ else ⟨⟨#[97]⟩, one97⟩
theorem toW_of {x : ByteArray} (h : 0 < x.size ∧ x.size ≤ 30) : toW x = ⟨x, h⟩ := by rw [toW, dif_pos h]
/-- the words of a text; none of one that is not ok -/
def wordsW (s : ByteArray) : List W30 := if txtOkB s = true then (wordsFrom s 0).map toW else []

/-- a place where a word begins, or one behind the text -/
def Start (s : ByteArray) (k : Nat) : Prop := (k < s.size → ch s k ≠ 32) ∧ k ≤ s.size + 1
theorem start_zero {s : ByteArray} (h : txtOkB s = true) : Start s 0 := by
  refine ⟨fun h0 hc => ?_, by omega⟩
  have hg := ((txtOkB_iff s).1 h).2 0 h0
  simp [goodB] at hg
  exact hg.1 hc
theorem start_next {s : ByteArray} (h : txtOkB s = true) {k : Nat} (hk : k < s.size) (hs : Start s k) :
    k < wend s k ∧ wend s k ≤ s.size ∧ Start s (wend s k + 1) ∧ (0 < (s.extract k (wend s k)).size ∧ (s.extract k (wend s k)).size ≤ 30) := by
  obtain ⟨h30, hg⟩ := (txtOkB_iff s).1 h
  obtain ⟨_, h2, _, h4⟩ := wend_spec s k (by omega)
  have h1 : k < wend s k := by rw [wend_go hk (hs.1 hk)]; exact wend_ge s (k + 1)
  refine ⟨h1, h2, ⟨fun hlt hc => ?_, by omega⟩, ?_⟩
  · have hb := h4 (by omega)
    have hn := hg (wend s k + 1) hlt
    simp [goodB] at hn
    rcases hn.1 with h5 | h5
    · exact h5 hc
    · exact h5.2 hb
  · rw [ByteArray.size_extract]; omega
theorem wordsFrom_len (s : ByteArray) (k : Nat) : (wordsFrom s k).length ≤ s.size - k := by
  by_cases h : k < s.size
  · rw [wordsFrom_go h]
    have h1 := wordsFrom_len s (wend s k + 1)
    have h2 := wend_ge s k
    simp
    omega
  · rw [wordsFrom_end h]; simp
termination_by s.size - k
decreasing_by have := wend_ge s k; omega

theorem words_val_from {s : ByteArray} (hok : txtOkB s = true) (k : Nat) (hk : Start s k) : ((wordsFrom s k).map toW).map (fun x => x.1) = wordsFrom s k := by
  by_cases h : k < s.size
  · obtain ⟨h1, h2, h3, h4⟩ := start_next hok h hk
    rw [wordsFrom_go h, List.map_cons, List.map_cons, toW_of h4, words_val_from hok _ h3]
  · rw [wordsFrom_end h]; rfl
termination_by s.size + 1 - k
decreasing_by omega
theorem words_val {s : ByteArray} (hok : txtOkB s = true) : (wordsW s).map (fun x => x.1) = wordsFrom s 0 := by
  rw [wordsW, if_pos hok]; exact words_val_from hok 0 (start_zero hok)
theorem words_map {s : ByteArray} (hok : txtOkB s = true) : (wordsW s).map (fun x => Value.string x.1) = (wordsFrom s 0).map Value.string := by
  rw [← words_val hok, List.map_map]; rfl
theorem words_len {s : ByteArray} (hok : txtOkB s = true) : (wordsW s).length = (wordsFrom s 0).length := by
  rw [← words_val hok, List.length_map]
theorem wordsW_len (s : ByteArray) : (wordsW s).length ≤ 30 := by
  cases hok : txtOkB s with
  | false => rw [wordsW, if_neg (by rw [hok]; simp)]; simp
  | true =>
    rw [words_len hok]
    have h1 := wordsFrom_len s 0
    have h2 := ((txtOkB_iff s).1 hok).1
    omega

set_option maxRecDepth 100000 in
theorem implWordEnd (s : ByteArray) (k : Nat) (hk : k ≤ s.size) (hs : s.size ≤ 30) (w : World) :
    Calls Try.prog 70 #[.string s, .int .i64 k] w fun e w' => e = .returned (.int .i64 (wend s k)) ∧ w' = w := by
  go_enter Try.func70, Try.ntmps70
  go_wp2
  go_loop [5] (fun i => ∃ m : Nat, m ≤ s.size ∧ i = .int .i64 m ∧ wend s m = wend s k) (fun i => s.size - (intOf i).toNat)
  case atStart => exact ⟨k, hk, rfl, rfl⟩
  case round =>
    obtain ⟨m, hm, rfl, HW0⟩ := hrel
    have HW := Hid.intro HW0
    clear HW0
    by_cases hlt : m < s.size
    · have HC : Hid (ch s m = (s[m].toNat : Int)) := ch_at hlt
      by_cases hc : (s[m].toNat : Int) = 32
      · have hc' : ((s[m].toNat : Int) == 32) = true := beq_iff_eq.2 hc
        have HE : Hid (wend s m = m) := wend_blank (HC.out.trans hc)
        clear hc HC
        go_wp2
        go_ret
        exact ⟨congrArg (fun n : Nat => Ending.returned (Value.int .i64 (n : Int))) (HE.out.symm.trans HW.out), rfl⟩
      · have hc' : ((s[m].toNat : Int) == 32) = false := beq_eq_false_iff_ne.2 hc
        have HE : Hid (wend s m = wend s (m + 1)) := wend_go hlt (fun h => hc (HC.out.symm.trans h))
        clear hc HC
        go_wp2
        go_round
        case rel => exact ⟨m + 1, by omega, by go_num, by rw [← HE.out, HW.out]⟩
        case measure => simp [intOf]; omega
    · have HE : Hid (wend s m = m) := wend_end hlt
      obtain rfl : m = s.size := by omega
      go_wp2
      go_ret
      exact ⟨congrArg (fun n : Nat => Ending.returned (Value.int .i64 (n : Int))) (HE.out.symm.trans HW.out), rfl⟩

theorem wordsOf_any (s : ByteArray) (w : World) :
    Calls Try.prog 46 #[.string s] w fun e w' => e = .returned (.func (.func 69) #[] #[.pointer (some ⟨w.heap.size, 0, none⟩)]) ∧ w' = w.alloc (.cells #[.string s] 9) := by
  go_enter Try.func46, Try.ntmps46
  go_wp2
  go_ret
  exact ⟨rfl, rfl⟩
end Go.Proofs.Ytfkkhfiiokhnaae
namespace Go.Proofs.Ytfkkhfiiokhnaae
open Go.RowKit Go.Shelf
attribute [local go_sem] Oper.semAt_some


set_option maxRecDepth 100000 in
set_option maxHeartbeats 1000000 in
theorem words1_in (l B : Nat) (s : ByteArray) (hs : s.size ≤ maxLen) (J Jx : List W30 → World → Prop)
    (hY : ∀ pre x W, J pre W → pre.length < (wordsW s).length → YieldAt Fence.wide 2 Try.prog l #[.string x.1] W fun e W' =>
      (e = .returned (.bool true) ∧ J (pre ++ [x]) W' ∧ BoxK B W W') ∨ (e = .returned (.bool false) ∧ Jx (pre ++ [x]) W'))
    (W : World) (hB : W.heap[B]? = some (.cells #[.string s] 9)) (h0 : J [] W) :
    CallsIn Fence.wide 3 Try.prog 69 #[.func (.yield l) #[] #[], .pointer (some ⟨B, 0, none⟩)] W fun e W' => (∃ v, e = .returned v) ∧
      ((∃ ys, ys = wordsW s ∧ J ys W') ∨ (∃ pre, pre <+: wordsW s ∧ Jx pre W')) := by
  have c0 : W.cell? ⟨B, 0, none⟩ = some (.string s) := by simp [World.cell?, hB]
  refine callsIn_of_wp Try.func69 rfl trivial ?_ rfl
  simp only [Try.ntmps69, List.size_toArray, List.length_cons, List.length_nil, Nat.reduceAdd, Nat.reduceSub, Array.replicate_succ, Array.replicate_zero, List.push_toArray, List.append_toArray, List.nil_append, List.cons_append]
  cases hok : txtOkB s with
  | false =>
    have hw0 : wordsW s = [] := by rw [wordsW, if_neg (by rw [hok]; simp)]
    gi_wp2_with (refine ⟨trivial, ?_⟩; gi_at_call 32; refine (callsIn_wide.2 (implTxtOk s _ hs)).mono ?_; rintro e w' ⟨rfl, rfl⟩; rw [hok])
    refine bodyPost_ret (results_none rfl _ _ _) rfl ?_
    exact ⟨⟨_, rfl⟩, .inl ⟨[], hw0.symm, h0⟩⟩
  | true =>
    have h30 : s.size ≤ 30 := ((txtOkB_iff s).1 hok).1
    have hw0 : wordsW s = (wordsFrom s 0).map toW := by rw [wordsW, if_pos hok]
    have HT : Hid (Start s 0) := start_zero hok
    gi_wp2_with (refine ⟨trivial, ?_⟩; gi_at_call 32; refine (callsIn_wide.2 (implTxtOk s _ hs)).mono ?_; rintro e w' ⟨rfl, rfl⟩; rw [hok])
    gi_loopw [3] (fun i wr => ∃ (k : Nat) (pre : List W30), i = .int .i64 k ∧ Hid (Start s k) ∧ Hid (wordsW s = pre ++ (wordsFrom s k).map toW) ∧ wr.heap[B]? = some (.cells #[.string s] 9) ∧ J pre wr) (fun i _ => s.size + 1 - (intOf i).toNat)
    case atStart => exact ⟨0, [], rfl, HT, by rw [List.nil_append]; exact hw0, hB, h0⟩
    case round =>
      obtain ⟨k, pre, rfl, HS, HW, hBr, hJ⟩ := hrel
      have cr : wr.cell? ⟨B, 0, none⟩ = some (.string s) := by simp [World.cell?, hBr]
      by_cases hlt : k < s.size
      · obtain ⟨h1, h2, h3, h4⟩ := start_next hok hlt HS.out
        have HN := Hid.intro h3
        have HG : Hid (wordsFrom s k = s.extract k (wend s k) :: wordsFrom s (wend s k + 1)) := wordsFrom_go hlt
        have HP : Hid (wordsW s = (pre ++ [⟨s.extract k (wend s k), h4⟩]) ++ (wordsFrom s (wend s k + 1)).map toW) := by
          show wordsW s = _
          rw [HW.out, HG.out, List.map_cons, toW_of h4]; simp
        have hlen : pre.length < (wordsW s).length := by rw [HP.out]; simp
        obtain ⟨fn, tmps, assign, body, hy, hR⟩ := hY pre ⟨s.extract k (wend s k), h4⟩ wr hJ hlen
        dsimp only at hy
        have HE := implWordEnd s k (by omega) h30 wr
        generalize wend s k = m at *
        clear h3
        gi_wp2_with (refine ⟨trivial, ?_⟩; gi_at_call 70; refine (callsIn_wide.2 HE).mono ?_; rintro e w' ⟨rfl, rfl⟩)
        refine hR.mono ?_
        rintro e W3 (⟨rfl, hJ3, hk3⟩ | ⟨rfl, hJx3⟩)
        · have hB3 := Eq.trans hk3 hBr
          gi_wp2
          go_roundw
          case rel => exact ⟨m + 1, _, by go_num, HN, HP, hB3, hJ3⟩
          case measure => simp [intOf]; omega
        · gi_wp2
          refine bodyPost_ret (results_none rfl _ _ _) rfl ?_
          exact ⟨⟨_, rfl⟩, .inr ⟨_, ⟨_, HP.out.symm⟩, hJx3⟩⟩
      · have HZ : Hid (wordsFrom s k = []) := wordsFrom_end hlt
        gi_wp2
        go_end0
        exact ⟨⟨_, rfl⟩, .inl ⟨pre, by rw [HW.out, HZ.out]; simp, hJ⟩⟩

/-- what the value that wordsOf hands back does, whatever loop goes over it -/
theorem words_stops (B : Nat) (s : ByteArray) (hs : s.size ≤ maxLen) (w : World) (hBn : B < w.heap.size) (hc : w.heap[B]? = some (.cells #[.string s] 9)) :
    SeqStopsK Fence.wide 3 Try.prog 69 #[.pointer (some ⟨B, 0, none⟩)] (fun x : W30 => #[Value.string x.1]) (BoxK B) (fun ys => ys = wordsW s) (fun pre => pre <+: wordsW s) (wordsW s).length w := fun l J Jx W hW _ _ hY h0 =>
  words1_in l B s hs J Jx hY W ((hW.block B hBn).trans hc) h0

end Go.Proofs.Ytfkkhfiiokhnaae
namespace Go.Proofs.Ytfkkhfiiokhnaae
open Go.RowKit Go.Shelf
attribute [local go_sem] Oper.semAt_some

/-- how long the longest word is -/
def leastOf (ws : List W30) : Nat := ws.foldl (fun n x => max n x.1.size) 0
theorem leastOf_snoc (ws : List W30) (x : W30) : leastOf (ws ++ [x]) = max (leastOf ws) x.1.size := by simp [leastOf]
theorem leastOf_le (ws : List W30) : leastOf ws ≤ 30 := by
  have : ∀ (l : List W30) (n : Nat), n ≤ 30 → l.foldl (fun n x => max n x.1.size) n ≤ 30 := by
    intro l
    induction l with
    | nil => intro n h; exact h
    | cons x r ih => intro n h; exact ih _ (Nat.max_le.2 ⟨h, x.2.2⟩)
  exact this ws 0 (by omega)

set_option maxRecDepth 100000 in
set_option maxHeartbeats 2000000 in
theorem implTxtLeast (s : ByteArray) (hs : s.size ≤ maxLen) (w : World) :
    Calls Try.prog 25 #[.string s] w fun e w' => e = .returned (.int .i64 (leastOf (wordsW s))) ∧ Below w.heap.size w w' := by
  refine (callsIn_wide (n := 4)).1 ?_
  refine callsIn_of_wp_marks Try.func25 rfl trivial ?_ rfl
  simp only [Try.ntmps25, List.size_toArray, List.length_cons, List.length_nil, Nat.reduceAdd, Nat.reduceSub, Array.replicate_succ, Array.replicate_zero, List.push_toArray, List.append_toArray, List.nil_append, List.cons_append]
  gi_wp2_with (refine ⟨trivial, ?_⟩; gi_at_call 46; refine (callsIn_wide.2 (wordsOf_any s _)).mono ?_; rintro e w' ⟨rfl, rfl⟩)
  have hs0 := cell_new_l w (.int .i64 0) 3
  have hB0 : Below w.heap.size w ((w.alloc (.cells #[.int .i64 0] 3)).alloc (.cells #[.string s] 9)) := k_alloc (k_alloc (Below.refl _ _) _) _
  have hbx : ((w.alloc (.cells #[.int .i64 0] 3)).alloc (.cells #[.string s] 9)).heap[w.heap.size + 1]? = some (.cells #[.string s] 9) := by
    have := World.alloc_heap_new (w.alloc (.cells #[.int .i64 0] 3)) (.cells #[.string s] 9)
    rwa [World.size_alloc] at this
  refine wpIn_rangeFunc_ownF rfl (by omega) (gf := 69) (lb := #[.pointer (some ⟨w.heap.size + 1, 0, none⟩)]) rfl trivial (enters_of Try.func69 (by kernel_rfl) rfl)
    (words_stops (w.heap.size + 1) s hs _ (by simp) hbx) (fun h k => BoxK.trans h k) (BoxK_b (by simp)) (Below.refl _ _) (fun _ => rfl)
    (fun pre W => (W.cell? ⟨w.heap.size, 0, none⟩ = some (.int .i64 (leastOf pre)) ∧ W.frozen? ⟨w.heap.size, 0, none⟩ = false) ∧ Below w.heap.size w W)
    (fun _ _ _ => False)
    (OwnFrom.and (Own.from (fun s A B row hs hg hr => ⟨cell_kept hs.1 hg hr, (frozen_kept hs.1 hg hr).trans hs.2⟩) _) (ownFrom_below (Nat.le_refl _) (by simp; omega)))
    (fun _ _ _ _ _ hs _ _ => hs)
    ⟨⟨cell_alloc_l _ hs0.1, frozen_alloc_l _ hs0.1 hs0.2⟩, hB0⟩
    (fun x => { tmps := #[.string s, undef, .int .i64 0, .pointer (some ⟨w.heap.size, 0, none⟩), .string x.1, .string s, .func (.func 69) #[] #[.pointer (some ⟨w.heap.size + 1, 0, none⟩)], .string x.1, undef, undef, undef, undef, undef], defers := [] }) ?assign ?body ?done ?stop
  case assign =>
    intro l x W K hK
    gi_wp2
    exact hK
  case body =>
    rintro l pre x W ⟨⟨hc, hf⟩, hB⟩ _
    have hx := x.2
    have hl := leastOf_le pre
    have hbn : (W.setCell ⟨w.heap.size, 0, none⟩ (.int .i64 (leastOf (pre ++ [x])))).heap[w.heap.size + 1]? = W.heap[w.heap.size + 1]? := Below.heap_setCell _ _ _ _ (by simp)
    have HO := Hid.intro (show KeepsOthers W (W.setCell ⟨w.heap.size, 0, none⟩ (.int .i64 (leastOf (pre ++ [x])))) ∧ BoxK (w.heap.size + 1) W (W.setCell ⟨w.heap.size, 0, none⟩ (.int .i64 (leastOf (pre ++ [x])))) ∧
      (((W.setCell ⟨w.heap.size, 0, none⟩ (.int .i64 (leastOf (pre ++ [x])))).cell? ⟨w.heap.size, 0, none⟩ = some (.int .i64 (leastOf (pre ++ [x]))) ∧ (W.setCell ⟨w.heap.size, 0, none⟩ (.int .i64 (leastOf (pre ++ [x])))).frozen? ⟨w.heap.size, 0, none⟩ = false) ∧
      Below w.heap.size w (W.setCell ⟨w.heap.size, 0, none⟩ (.int .i64 (leastOf (pre ++ [x]))))) from ⟨KeepsOthers.setCell _ _ _, hbn, ⟨World.cell?_setCell_same' _ _ _ (by rw [hc]; rfl), by rw [World.frozen?_setCell]; exact hf⟩, hB.setCell (p := ⟨w.heap.size, 0, none⟩) (Nat.le_refl _) _⟩)
    have HM := Hid.intro (leastOf_snoc pre x)
    clear hbn
    gi_wp2
    · rename_i hlt
      have e : leastOf (pre ++ [x]) = x.1.size := by rw [HM.out]; omega
      have h := HO.out
      rw [e] at h
      exact ⟨h.1, h.2.1, by rw [e]; exact h.2.2.1, h.2.2.2⟩
    · rename_i hlt
      have e : leastOf (pre ++ [x]) = leastOf pre := by rw [HM.out]; omega
      have h := HO.out
      rw [e] at h
      exact ⟨h.1, h.2.1, by rw [e]; exact h.2.2.1, h.2.2.2⟩
  case done =>
    rintro D ys W hD rfl ⟨⟨hc, _⟩, hB⟩ hK
    gi_wp2
    refine ⟨by simp, .inl ⟨_, _, rfl, run_takeDeferred hK, ?_⟩⟩
    exact ⟨_, results_tmp rfl _ _ _, rfl, hB.trans (belowK_b (w := w) (Nat.le_refl _) W D _ _ (by simp at hD; omega) hK rfl rfl)⟩
  case stop =>
    rintro D c pre W _ _ h _
    exact h.elim
end Go.Proofs.Ytfkkhfiiokhnaae
