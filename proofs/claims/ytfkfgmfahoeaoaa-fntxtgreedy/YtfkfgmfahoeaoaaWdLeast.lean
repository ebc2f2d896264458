/-
  PROVED HERE: what the program's TxtLeast answers: how long the longest of a text's words is; nothing that was in memory is turned.
-/
import Derived.Test.YtfkfgmfahoeaoaaWdIt
namespace Go.Proofs.Ytfkfgmfahoeaoaa
open Go.RowKit Go.Shelf
attribute [local go_sem] Oper.semAt_some

/-- how long the longest word is -/
def leastOf (ws : List W30) : Nat := ws.foldl (fun n x => max n x.1.size) 0
theorem leastOf_snoc (ws : List W30) (x : W30) : leastOf (ws ++ [x]) = max (leastOf ws) x.1.size := by simp [leastOf]
theorem leastOf_le (ws : List W30) : leastOf ws ≤ 30 := by
  have : ∀ (l : List W30) (n : Nat), n ≤ 30 → l.foldl (fun n x => max n x.1.size) n ≤ 30 := by
    intro l
    induction l with
    | nil => intro n h; exact h
    | cons x r ih => intro n h; exact ih _ (Nat.max_le.2 ⟨h, x.2.2⟩)
  exact this ws 0 (by omega)

set_option maxRecDepth 100000 in
set_option maxHeartbeats 2000000 in
theorem implTxtLeast (s : ByteArray) (hs : s.size ≤ maxLen) (w : World) :
    Calls Try.prog 24 #[.string s] w fun e w' => e = .returned (.int .i64 (leastOf (wordsW s))) ∧ Below w.heap.size w w' := by
  refine (callsIn_wide (n := 4)).1 ?_
  refine callsIn_of_wp_marks Try.func24 rfl trivial ?_ rfl
  simp only [Try.ntmps24, List.size_toArray, List.length_cons, List.length_nil, Nat.reduceAdd, Nat.reduceSub, Array.replicate_succ, Array.replicate_zero, List.push_toArray, List.append_toArray, List.nil_append, List.cons_append]
  gi_wp2_with (refine ⟨trivial, ?_⟩; gi_at_call 30; refine (callsIn_wide.2 (wordsOf_any s _)).mono ?_; rintro e w' ⟨rfl, rfl⟩)
  have hs0 := cell_new_l w (.int .i64 0) 3
  have hB0 : Below w.heap.size w ((w.alloc (.cells #[.int .i64 0] 3)).alloc (.cells #[.string s] 9)) := k_alloc (k_alloc (Below.refl _ _) _) _
  have hbx : ((w.alloc (.cells #[.int .i64 0] 3)).alloc (.cells #[.string s] 9)).heap[w.heap.size + 1]? = some (.cells #[.string s] 9) := by
    have := World.alloc_heap_new (w.alloc (.cells #[.int .i64 0] 3)) (.cells #[.string s] 9)
    rwa [World.size_alloc] at this
  refine wpIn_rangeFunc_ownF rfl (by omega) (gf := 43) (lb := #[.pointer (some ⟨w.heap.size + 1, 0, none⟩)]) rfl trivial (enters_of Try.func43 (by kernel_rfl) rfl)
    (words_stops (w.heap.size + 1) s hs _ (by simp) hbx) (fun h k => BoxK.trans h k) (BoxK_b (by simp)) (Below.refl _ _) (fun _ => rfl)
    (fun pre W => (W.cell? ⟨w.heap.size, 0, none⟩ = some (.int .i64 (leastOf pre)) ∧ W.frozen? ⟨w.heap.size, 0, none⟩ = false) ∧ Below w.heap.size w W)
    (fun _ _ _ => False)
    (OwnFrom.and (Own.from (fun s A B row hs hg hr => ⟨cell_kept hs.1 hg hr, (frozen_kept hs.1 hg hr).trans hs.2⟩) _) (ownFrom_below (Nat.le_refl _) (by simp; omega)))
    (fun _ _ _ _ _ hs _ _ => hs)
    ⟨⟨cell_alloc_l _ hs0.1, frozen_alloc_l _ hs0.1 hs0.2⟩, hB0⟩
    (fun x => { tmps := #[.string s, undef, .int .i64 0, .pointer (some ⟨w.heap.size, 0, none⟩), .string x.1, .string s, .func (.func 43) #[] #[.pointer (some ⟨w.heap.size + 1, 0, none⟩)], .string x.1, undef, undef, undef, undef, undef], defers := [] }) ?assign ?body ?done ?stop
  case assign =>
    intro l x W K hK
    gi_wp2
    exact hK
  case body =>
    rintro l pre x W ⟨⟨hc, hf⟩, hB⟩ _
    have hx := x.2
    have hl := leastOf_le pre
    have hbn : (W.setCell ⟨w.heap.size, 0, none⟩ (.int .i64 (leastOf (pre ++ [x])))).heap[w.heap.size + 1]? = W.heap[w.heap.size + 1]? := Below.heap_setCell _ _ _ _ (by simp)
    have HO := Hid.intro (show KeepsOthers W (W.setCell ⟨w.heap.size, 0, none⟩ (.int .i64 (leastOf (pre ++ [x])))) ∧ BoxK (w.heap.size + 1) W (W.setCell ⟨w.heap.size, 0, none⟩ (.int .i64 (leastOf (pre ++ [x])))) ∧
      (((W.setCell ⟨w.heap.size, 0, none⟩ (.int .i64 (leastOf (pre ++ [x])))).cell? ⟨w.heap.size, 0, none⟩ = some (.int .i64 (leastOf (pre ++ [x]))) ∧ (W.setCell ⟨w.heap.size, 0, none⟩ (.int .i64 (leastOf (pre ++ [x])))).frozen? ⟨w.heap.size, 0, none⟩ = false) ∧
      Below w.heap.size w (W.setCell ⟨w.heap.size, 0, none⟩ (.int .i64 (leastOf (pre ++ [x]))))) from ⟨KeepsOthers.setCell _ _ _, hbn, ⟨World.cell?_setCell_same' _ _ _ (by rw [hc]; rfl), by rw [World.frozen?_setCell]; exact hf⟩, hB.setCell (p := ⟨w.heap.size, 0, none⟩) (Nat.le_refl _) _⟩)
    have HM := Hid.intro (leastOf_snoc pre x)
    clear hbn
    gi_wp2
    · rename_i hlt
      have e : leastOf (pre ++ [x]) = x.1.size := by rw [HM.out]; omega
      have h := HO.out
      rw [e] at h
      exact ⟨h.1, h.2.1, by rw [e]; exact h.2.2.1, h.2.2.2⟩
    · rename_i hlt
      have e : leastOf (pre ++ [x]) = leastOf pre := by rw [HM.out]; omega
      have h := HO.out
      rw [e] at h
      exact ⟨h.1, h.2.1, by rw [e]; exact h.2.2.1, h.2.2.2⟩
  case done =>
    rintro D ys W hD rfl ⟨⟨hc, _⟩, hB⟩ hK
    gi_wp2
    refine ⟨by simp, .inl ⟨_, _, rfl, run_takeDeferred hK, ?_⟩⟩
    exact ⟨_, results_tmp rfl _ _ _, rfl, hB.trans (belowK_b (w := w) (Nat.le_refl _) W D _ _ (by simp at hD; omega) hK rfl rfl)⟩
  case stop =>
    rintro D c pre W _ _ h _
    exact h.elim
end Go.Proofs.Ytfkfgmfahoeaoaa
