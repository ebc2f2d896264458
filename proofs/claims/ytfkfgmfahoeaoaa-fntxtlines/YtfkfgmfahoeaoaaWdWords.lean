/-
  PROVED HERE: what the program's TxtWords answers: a text's words, in new memory; nothing that was in memory is turned.
-/
import Derived.Test.YtfkfgmfahoeaoaaWdIt
import Derived.Test.YtfkfgmfahoeaoaaShelf
import Derived.Test.YtfkfgmfahoeaoaaInRound
import Derived.RangeFuncBox
import Derived.Maps.AppendAt
namespace Go.Proofs.Ytfkfgmfahoeaoaa
open Go.RowKit Go.Shelf
attribute [local go_sem] Oper.semAt_some

theorem infoStr : (Try.prog.info? 9).map (fun i => (i.zero, i.size, i.bytes)) = some (some (Value.string ⟨#[]⟩), 1, 16) := by kernel_rfl
theorem clone_any (s : ByteArray) (hs : s.size ≤ 30) (w : World) : Calls Try.prog 31 #[.string s] w fun e w' => e = .returned (.string s) ∧ Below w.heap.size w w' := by
  go_enter Try.func31, Try.ntmps31
  go_wp2_with fail
  refine (Try.stringslite_Clone s w (by omega)).mono ?_
  rintro e w1 ⟨rfl, hb⟩
  go_wp2
  go_ret
  exact ⟨rfl, hb⟩
theorem ownsRow_leW {w : World} {base base' size n : Nat} {e : TypeId} {v : Value} {xs : List Value} (h : w.ownsRow base e size v n xs) (hb : base' ≤ base) : w.ownsRow base' e size v n xs :=
  ⟨h.1, h.2.elim Or.inl (fun ⟨g, cap, cur, hv, hg, r⟩ => Or.inr ⟨g, cap, cur, hv, Nat.le_trans hb hg, r⟩)⟩
theorem ownsRow_keptW {w w' : World} {base size n : Nat} {e : TypeId} {v : Value} {xs : List Value} (h : w.ownsRow base e size v n xs) (hb : Below w.heap.size w w') : w'.ownsRow base e size v n xs := by
  refine ⟨h.1, h.2.elim Or.inl (fun ⟨g, cap, cur, hv, hg, hc, r⟩ => Or.inr ⟨g, cap, cur, hv, hg, (hb.block g (Array.getElem?_eq_some_iff.1 hc).1).trans hc, r⟩)⟩
theorem KeepsOthers.of_below {W W' : World} (h : Below W.heap.size W W') : KeepsOthers W W' := ⟨h.size, fun k _ hk _ => (h.block k (Array.getElem?_eq_some_iff.1 hk).1).trans hk⟩

/-- what a round that appends a word leaves -/
theorem words_round {w W w1 w2 : World} {s : ByteArray} {v v' : Value} {k : Nat} {xs news : List Value} {u : Value}
    (hv : Boxed W w.heap.size 24 v) (hx1 : Boxed W (w.heap.size + 1) 9 (.string s)) (hrow : W.ownsRow (w.heap.size + 2) 9 1 v k xs) (hB : Below w.heap.size w W) (hb1 : Below W.heap.size W w1)
    (hown' : w2.ownsRow (w.heap.size + 2) 9 1 v' (k + 1) (xs ++ news)) (hgrow : (w1.alloc (.cells #[u] 9)).grownBy w2 v.ownBlock) :
    Boxed w2 w.heap.size 24 v ∧ KeepsOthers W (w2.setCell ⟨w.heap.size, 0, none⟩ v') ∧ BoxK (w.heap.size + 1) W (w2.setCell ⟨w.heap.size, 0, none⟩ v') ∧
      Boxed (w2.setCell ⟨w.heap.size, 0, none⟩ v') w.heap.size 24 v' ∧ (w2.setCell ⟨w.heap.size, 0, none⟩ v').ownsRow (w.heap.size + 2) 9 1 v' (k + 1) (xs ++ news) ∧
      Boxed (w2.setCell ⟨w.heap.size, 0, none⟩ v') (w.heap.size + 1) 9 (.string s) ∧ Below w.heap.size w (w2.setCell ⟨w.heap.size, 0, none⟩ v') := by
  have hl0 := hv.lt
  have hl1 := hx1.lt
  have hne : ∀ b, b < w.heap.size + 2 → some b ≠ v.ownBlock := fun b hb e => by have := (hrow.lt b e.symm).1; omega
  have hr1 := ownsRow_keptW hrow hb1
  have e0 : w2.heap[w.heap.size]? = W.heap[w.heap.size]? := by
    rw [hgrow.block w.heap.size (by have := hb1.size; simp; omega) (hne _ (by omega)), Below.heap_alloc _ _ _ (by have := hb1.size; omega), hb1.block _ hl0]
  have e1 : w2.heap[w.heap.size + 1]? = W.heap[w.heap.size + 1]? := by
    rw [hgrow.block (w.heap.size + 1) (by have := hb1.size; simp; omega) (hne _ (by omega)), Below.heap_alloc _ _ _ (by have := hb1.size; omega), hb1.block _ hl1]
  have hv2 : Boxed w2 w.heap.size 24 v := Eq.trans e0 hv
  have hs1 : (w2.setCell ⟨w.heap.size, 0, none⟩ v').heap[w.heap.size + 1]? = w2.heap[w.heap.size + 1]? := Below.heap_setCell _ _ _ _ (by simp)
  have hBw : Below w.heap.size w w1 := k_trans hB hb1
  have hB2 : Below w.heap.size w w2 := (k_alloc hBw _).grown hgrow (by have := hBw.size; simp; omega) (fun b hb => by have := (hr1.lt b hb).1; omega)
  refine ⟨hv2, ?_, Eq.trans hs1 e1, hv2.set v', ownsRow_setCell_below hown' (by simp) _, (Eq.trans hs1 e1).trans hx1, k_set hB2 (Nat.le_refl _) _⟩
  refine (((KeepsOthers.of_below hb1).trans (KeepsOthers.alloc w1 _)).trans (KeepsOthers.of_grownBy hgrow fun j o ej hj => ?_)).trans (KeepsOthers.setCell _ _ _)
  rcases (hr1.alloc (.cells #[u] 9)).2 with ⟨rfl, _⟩ | ⟨g, cap, cur, rfl, _, hgb, _⟩
  · simp [Value.ownBlock] at ej
  · obtain rfl : g = j := by simpa [Value.ownBlock] using ej
    rw [hgb] at hj; cases hj; rfl

set_option maxRecDepth 100000 in
set_option maxHeartbeats 2000000 in
theorem implTxtWords (s : ByteArray) (hs : s.size ≤ maxLen) (w : World) :
    Calls Try.prog 10 #[.string s] w fun e w' => ∃ v, e = .returned v ∧ w'.ownsRow w.heap.size 9 1 v (wordsW s).length ((wordsW s).map (fun x => Value.string x.1)) ∧ Below w.heap.size w w' := by
  obtain ⟨i0, hi, hz0, hz1, hz2⟩ := info_parts infoStr
  have hwl := wordsW_len s
  refine (callsIn_wide (n := 4)).1 ?_
  refine callsIn_of_wp_marks Try.func10 rfl trivial ?_ rfl
  simp only [Try.ntmps10, List.size_toArray, List.length_cons, List.length_nil, Nat.reduceAdd, Nat.reduceSub, Array.replicate_succ, Array.replicate_zero, List.push_toArray, List.append_toArray, List.nil_append, List.cons_append]
  gi_wp2_with (refine ⟨trivial, ?_⟩; gi_at_call 30; refine (callsIn_wide.2 (wordsOf_any s _)).mono ?_; rintro e w' ⟨rfl, rfl⟩)
  have bO := Boxed.new w 24 (.slice none 0 0)
  have hB0 : Below w.heap.size w ((w.alloc (.cells #[.slice none 0 0] 24)).alloc (.cells #[.string s] 9)) := k_alloc (k_alloc (Below.refl _ _) _) _
  have hbx : ((w.alloc (.cells #[.slice none 0 0] 24)).alloc (.cells #[.string s] 9)).heap[w.heap.size + 1]? = some (.cells #[.string s] 9) := by
    have := World.alloc_heap_new (w.alloc (.cells #[.slice none 0 0] 24)) (.cells #[.string s] 9)
    rwa [World.size_alloc] at this
  refine wpIn_rangeFunc_ownF rfl (by omega) (gf := 43) (lb := #[.pointer (some ⟨w.heap.size + 1, 0, none⟩)]) rfl trivial (enters_of Try.func43 (by kernel_rfl) rfl)
    (words_stops (w.heap.size + 1) s hs _ (by simp) hbx) (fun h k => BoxK.trans h k) (BoxK_b (by simp)) (Below.refl _ _) (fun _ => rfl)
    (fun pre W => (∃ v, Boxed W w.heap.size 24 v ∧ W.ownsRow (w.heap.size + 2) 9 1 v pre.length (pre.map (fun x => Value.string x.1)) ∧ True) ∧ Boxed W (w.heap.size + 1) 9 (.string s) ∧ Below w.heap.size w W)
    (fun _ _ _ => False)
    (OwnFrom.and (Own.from (holdsRow_own (w.heap.size + 2) w.heap.size 24 9 1 (fun pre : List W30 => pre.length) (fun pre : List W30 => pre.map (fun x => Value.string x.1)) (fun _ _ => True)) _) (OwnFrom.and (Own.from (boxed_own _ _ (fun _ => .string s)) _) (ownFrom_below (Nat.le_refl _) (by simp; omega))))
    (fun _ _ _ _ _ hs _ _ => hs)
    ⟨⟨_, bO.alloc _, World.ownsRow_nil _ _ _ _, trivial⟩, hbx, hB0⟩
    (fun x => { tmps := #[.string s, undef, .slice none 0 0, .pointer (some ⟨w.heap.size, 0, none⟩), .string x.1, .string s, .func (.func 43) #[] #[.pointer (some ⟨w.heap.size + 1, 0, none⟩)], .string x.1, undef, undef, undef, undef, undef, undef], defers := [] }) ?assign ?body ?done ?stop
  case assign =>
    intro l x W K hK
    gi_wp2
    exact hK
  case body =>
    rintro l pre x W ⟨⟨v, hv, hrow, _⟩, hx1, hB⟩ hlt
    have hc := hv.cell
    have hf := hv.frozen
    have hx := x.2
    have hmx : Try.prog.follows .mixedOrders = true := by kernel_rfl
    gi_wp2
    refine wpIn_region_any hmx ?_
    change wpAnyIn _ _ _ _ _ _ _ _ _ (World.drew _)
    refine ready2 (i := 0) (j := 1) (by kernel_rfl) rfl rfl (fun K hK => ?_) (fun K hK => ?_)
    · go_simp
      refine hK _ _ ?_
      clear hK K
      refine ready1 (i := 1) (by kernel_rfl) rfl (fun K hK => ?_)
      go_simp
      refine hK _ _ ?_
      clear hK K
      refine ready1 (i := 2) (by kernel_rfl) rfl (fun K hK => ?_)
      go_simp
      refine ⟨trivial, ?_⟩
      refine (CallsIn.inRound l (callsIn_wide.2 (clone_any x.1 hx.2 _))).mono ?_
      rintro e w1 ⟨rfl, hb0⟩
      have hb1 := k_trans (k_drew (Below.refl W.heap.size W)) hb0
      have hc1 := (hb1.cell (p := ⟨w.heap.size, 0, none⟩) hv.lt).trans hc
      have hd1 := cell_alloc_l (.cells #[.string x.1] 9) hc1
      have hr1 := ownsRow_keptW hrow hb1
      have hs1 := Nat.le_trans hx1.lt hb1.size
      clear hb0
      refine hK _ _ ?_
      clear hK K
      refine ready1 (i := 3) (by kernel_rfl) rfl (fun K hK => ?_)
      go_simp
      refine hK _ _ ?_
      clear hK K
      refine ready_append (j := 4) (by kernel_rfl) rfl rfl _ _ 24 rfl (w.heap.size + 2) 9 i0 (.string ⟨#[]⟩) 1 16 Try.underlying24 hi hz0 hz1 hz2 rfl (by decide) v pre.length _ rfl (hr1.alloc _) ⟨w1.heap.size, 0, none⟩ 1 1 [.string x.1] rfl rfl (cell_one_new _ _ _) (by simp [Value.oneCell']) (by unfold maxLen; omega) (by omega) (by simp; omega) ?_
      intro v' w2 hown' hgrow
      obtain ⟨g', cap', rfl⟩ := ownsRow_succ hown'
      obtain ⟨hv2, t1, t2, t3, t4, t5, t6⟩ := words_round hv hx1 hrow hB hb1 hown' hgrow
      have hc2 := hv2.cell
      have hf2 := hv2.frozen
      refine ready1 (i := 5) (by kernel_rfl) rfl (fun K hK => ?_)
      go_simp
      refine hK _ _ ?_
      clear hK K
      refine wpAnyIn_done (by kernel_rfl) ?_ _
      exact ⟨t1, t2, ⟨_, t3, by simpa using t4, trivial⟩, t5, t6⟩
    · go_simp
      refine hK _ _ ?_
      clear hK K
      refine ready2 (i := 0) (j := 2) (by kernel_rfl) rfl rfl (fun K hK => ?_) (fun K hK => ?_)
      · go_simp
        refine hK _ _ ?_
        clear hK K
        refine ready1 (i := 2) (by kernel_rfl) rfl (fun K hK => ?_)
        go_simp
        refine ⟨trivial, ?_⟩
        refine (CallsIn.inRound l (callsIn_wide.2 (clone_any x.1 hx.2 _))).mono ?_
        rintro e w1 ⟨rfl, hb0⟩
        have hb1 := k_trans (k_drew (Below.refl W.heap.size W)) hb0
        have hc1 := (hb1.cell (p := ⟨w.heap.size, 0, none⟩) hv.lt).trans hc
        have hd1 := cell_alloc_l (.cells #[.string x.1] 9) hc1
        have hr1 := ownsRow_keptW hrow hb1
        have hs1 := Nat.le_trans hx1.lt hb1.size
        clear hb0
        refine hK _ _ ?_
        clear hK K
        refine ready1 (i := 3) (by kernel_rfl) rfl (fun K hK => ?_)
        go_simp
        refine hK _ _ ?_
        clear hK K
        refine ready_append (j := 4) (by kernel_rfl) rfl rfl _ _ 24 rfl (w.heap.size + 2) 9 i0 (.string ⟨#[]⟩) 1 16 Try.underlying24 hi hz0 hz1 hz2 rfl (by decide) v pre.length _ rfl (hr1.alloc _) ⟨w1.heap.size, 0, none⟩ 1 1 [.string x.1] rfl rfl (cell_one_new _ _ _) (by simp [Value.oneCell']) (by unfold maxLen; omega) (by omega) (by simp; omega) ?_
        intro v' w2 hown' hgrow
        obtain ⟨g', cap', rfl⟩ := ownsRow_succ hown'
        obtain ⟨hv2, t1, t2, t3, t4, t5, t6⟩ := words_round hv hx1 hrow hB hb1 hown' hgrow
        have hc2 := hv2.cell
        have hf2 := hv2.frozen
        refine ready1 (i := 5) (by kernel_rfl) rfl (fun K hK => ?_)
        go_simp
        refine hK _ _ ?_
        clear hK K
        refine wpAnyIn_done (by kernel_rfl) ?_ _
        exact ⟨t1, t2, ⟨_, t3, by simpa using t4, trivial⟩, t5, t6⟩
      · go_simp
        refine ⟨trivial, ?_⟩
        refine (CallsIn.inRound l (callsIn_wide.2 (clone_any x.1 hx.2 _))).mono ?_
        rintro e w1 ⟨rfl, hb0⟩
        have hb1 := k_trans (k_drew (Below.refl W.heap.size W)) hb0
        have hc1 := (hb1.cell (p := ⟨w.heap.size, 0, none⟩) hv.lt).trans hc
        have hd1 := cell_alloc_l (.cells #[.string x.1] 9) hc1
        have hr1 := ownsRow_keptW hrow hb1
        have hs1 := Nat.le_trans hx1.lt hb1.size
        clear hb0
        refine hK _ _ ?_
        clear hK K
        refine ready2 (i := 0) (j := 3) (by kernel_rfl) rfl rfl (fun K hK => ?_) (fun K hK => ?_)
        · go_simp
          refine hK _ _ ?_
          clear hK K
          refine ready1 (i := 3) (by kernel_rfl) rfl (fun K hK => ?_)
          go_simp
          refine hK _ _ ?_
          clear hK K
          refine ready_append (j := 4) (by kernel_rfl) rfl rfl _ _ 24 rfl (w.heap.size + 2) 9 i0 (.string ⟨#[]⟩) 1 16 Try.underlying24 hi hz0 hz1 hz2 rfl (by decide) v pre.length _ rfl (hr1.alloc _) ⟨w1.heap.size, 0, none⟩ 1 1 [.string x.1] rfl rfl (cell_one_new _ _ _) (by simp [Value.oneCell']) (by unfold maxLen; omega) (by omega) (by simp; omega) ?_
          intro v' w2 hown' hgrow
          obtain ⟨g', cap', rfl⟩ := ownsRow_succ hown'
          obtain ⟨hv2, t1, t2, t3, t4, t5, t6⟩ := words_round hv hx1 hrow hB hb1 hown' hgrow
          have hc2 := hv2.cell
          have hf2 := hv2.frozen
          refine ready1 (i := 5) (by kernel_rfl) rfl (fun K hK => ?_)
          go_simp
          refine hK _ _ ?_
          clear hK K
          refine wpAnyIn_done (by kernel_rfl) ?_ _
          exact ⟨t1, t2, ⟨_, t3, by simpa using t4, trivial⟩, t5, t6⟩
        · go_simp
          refine hK _ _ ?_
          clear hK K
          refine ready1 (i := 0) (by kernel_rfl) rfl (fun K hK => ?_)
          go_simp
          refine hK _ _ ?_
          clear hK K
          refine ready_append (j := 4) (by kernel_rfl) rfl rfl _ _ 24 rfl (w.heap.size + 2) 9 i0 (.string ⟨#[]⟩) 1 16 Try.underlying24 hi hz0 hz1 hz2 rfl (by decide) v pre.length _ rfl (hr1.alloc _) ⟨w1.heap.size, 0, none⟩ 1 1 [.string x.1] rfl rfl (cell_one_new _ _ _) (by simp [Value.oneCell']) (by unfold maxLen; omega) (by omega) (by simp; omega) ?_
          intro v' w2 hown' hgrow
          obtain ⟨g', cap', rfl⟩ := ownsRow_succ hown'
          obtain ⟨hv2, t1, t2, t3, t4, t5, t6⟩ := words_round hv hx1 hrow hB hb1 hown' hgrow
          have hc2 := hv2.cell
          have hf2 := hv2.frozen
          refine ready1 (i := 5) (by kernel_rfl) rfl (fun K hK => ?_)
          go_simp
          refine hK _ _ ?_
          clear hK K
          refine wpAnyIn_done (by kernel_rfl) ?_ _
          exact ⟨t1, t2, ⟨_, t3, by simpa using t4, trivial⟩, t5, t6⟩
  case done =>
    rintro D ys W hD rfl ⟨⟨v, hv, hrow, _⟩, hx1, hB⟩ hK
    have hc := hv.cell
    gi_wp2
    refine ⟨by simp, .inl ⟨_, _, rfl, run_takeDeferred hK, ?_⟩⟩
    exact ⟨_, results_tmp rfl _ _ _, v, rfl, ownsRow_leW (ownsRow_putObj hrow _ hK rfl) (by omega), hB.trans (belowK_b (w := w) (Nat.le_refl _) W D _ _ (by simp at hD; omega) hK rfl rfl)⟩
  case stop =>
    rintro D c pre W _ _ h _
    exact h.elim
end Go.Proofs.Ytfkfgmfahoeaoaa
