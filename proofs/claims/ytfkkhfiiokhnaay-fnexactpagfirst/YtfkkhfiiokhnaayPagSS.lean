/-
  PROVED HERE: what the laws' own szPagSliceSS, toPagSliceSS, eqPagSliceSS answer; nothing that was in memory is turned.
-/
import Derived.Test.YtfkkhfiiokhnaayPagTo
namespace Go.Proofs.Ytfkkhfiiokhnaay
open Go.RowKit

set_option maxRecDepth 100000 in
set_option maxHeartbeats 1000000 in
theorem szPagSliceSS_any (v : Value) (pss : List (List PgS)) (w : World) {z : Nat} (h : PssAt w z v pss) :
    Calls Try.prog 19 #[v, .int .i64 1048576] w fun e w' => e = .returned (.int .i64 (leftOf 1048576 (totP pss))) ∧ Below w.heap.size w w' := by
  obtain ⟨a, cap, rfl, hlen⟩ := At.form h
  unfold maxLen at hlen
  have HT : Hid (totP pss = pss.length + pTo pss pss.length) := rfl
  have H := Hid.intro h
  clear h
  by_cases hl : (pss.length : Int) ≤ 1048576
  · have hl' : ¬ (1048576 : Int) - (pss.length : Int) < 0 := by omega
    go_enter Try.func19, Try.ntmps19
    go_wp2_with fail
    go_loopw [1, 5] (fun l i W => ∃ k : Nat, k ≤ pss.length ∧ i = .int .i64 k ∧ l = .int .i64 (1048576 - pss.length - pTo pss k) ∧ (pTo pss k : Int) ≤ 1048576 - pss.length ∧ Below w.heap.size w W) (fun _ i _ => pss.length - (intOf i).toNat)
    case atStart => exact ⟨0, Nat.zero_le _, rfl, by simp [pTo], by simp [pTo]; omega, Below.refl _ _⟩
    case round =>
      obtain ⟨k, hk, rfl, rfl, hle, hb⟩ := hrel
      have HB := Hid.intro hb
      clear hb
      by_cases hlt : k < pss.length
      · obtain ⟨b, off, cap', u, e', hc1, hc2, hbl, hx0, hx⟩ := PssAt.get (H.out.kept HB.out) hlt
        simp only [Value.slice.injEq, true_and] at e'
        obtain ⟨rfl, rfl⟩ := e'
        have HS := Hid.intro (pTo_succ hlt)
        generalize pss.getD k [] = x at hx HS
        obtain ⟨ua, ucap, rfl, hul⟩ := At.form hx
        have HX := Hid.intro hx
        unfold maxLen at hc2
        clear hx hul
        go_wp2_with fail
        refine (szPagSliceS_any _ x _ (by omega) (by omega) _ HX.out).mono ?_
        by_cases hy : (x.length : Int) ≤ 1048576 - pss.length - pTo pss k
        · rw [leftOf_pos hy]
          rintro e w1 ⟨rfl, hb1⟩
          have HB1 := Hid.intro (k_trans HB.out hb1)
          have hg : ¬ 1048576 - (pss.length : Int) - (pTo pss k : Int) - (x.length : Int) < 0 := by omega
          clear hb1
          go_wp2
          go_roundw
          case rel => exact ⟨k + 1, by omega, by go_num, by rw [HS.out]; go_num, by rw [HS.out]; omega, HB1.out⟩
          case measure => simp [intOf]; omega
        · rw [leftOf_neg hy]
          rintro e w1 ⟨rfl, hb1⟩
          have HB1 := Hid.intro (k_trans HB.out hb1)
          have HF : Hid (leftOf 1048576 (totP pss) = -1) := by
            have := pTo_le pss (k + 1)
            show leftOf 1048576 (totP pss) = -1
            rw [leftOf, HT.out, if_neg (by rw [HS.out] at this; omega)]
          clear hb1
          go_wp2
          go_ret
          exact ⟨by rw [HF.out]; rfl, HB1.out⟩
      · obtain rfl : k = pss.length := by omega
        have HF : Hid (leftOf 1048576 (totP pss) = 1048576 - pss.length - pTo pss pss.length) := by
          show leftOf 1048576 (totP pss) = _
          rw [leftOf, HT.out, if_pos (by omega)]; omega
        go_wp2
        go_ret
        exact ⟨by rw [HF.out]; rfl, HB.out⟩
  · have hl' : (1048576 : Int) - (pss.length : Int) < 0 := by omega
    have HF : Hid (leftOf 1048576 (totP pss) = -1) := by
      show leftOf 1048576 (totP pss) = -1
      rw [leftOf, HT.out, if_neg (by omega)]
    go_enter Try.func19, Try.ntmps19
    go_wp2
    go_ret
    exact ⟨by rw [HF.out]; rfl, Below.refl _ _⟩

/-- the new array of so many pages -/
def newPs (n : Nat) : Array Value := madeCells (Value.slice none 0 0).cells (n * 1)
theorem newPs_size (n : Nat) : (newPs n).size = n := by rw [newPs, size_madeCells, Nat.mul_one]
theorem infoPs : (Try.prog.info? 41).map (fun i => (i.zero, i.size, i.bytes)) = some (some (Value.slice none 0 0), 1, 24) := by kernel_rfl
theorem makePs (n : Nat) (hn : n ≤ 1048576) (u : World) : (Instr.makeSlice 48 (.int .i64 (n : Int)) (.int .i64 (n : Int))).run Try.prog u = .ok (.slice (some ⟨u.heap.size, 0, none⟩) n n) (u.alloc (.cells (newPs n) 41)) := by
  obtain ⟨i0, hi, hz0, hz1, hz2⟩ := info_parts infoPs
  have h := run_make (P := Try.prog) u 48 41 i0 _ Try.underlying48 hi hz0 .i64 .i64 (n : Int) (n : Int) (by omega) (Int.le_refl _) (by rw [hz2]; omega) (by omega)
  rw [hz1, Int.toNat_natCast] at h
  exact h
def PsArr (w : World) (z : Nat) (arr : Array Value) (pss : List (List PgS)) (k : Nat) : Prop := ∀ i, i < k → ∃ u, arr[i]? = some u ∧ PsAt w z u (pss.getD i [])
theorem PsArr.next {w w' : World} {z : Nat} {arr : Array Value} {pss : List (List PgS)} {k : Nat} (h : PsArr w z arr pss k) (hs : arr.size = pss.length) (hk : k < pss.length) (hw : Since z w w') {u : Value} (hu : PsAt w' z u (pss.getD k [])) :
    PsArr w' z (arr.setIfInBounds k u) pss (k + 1) := by
  intro i hi
  rcases Nat.lt_or_eq_of_le (Nat.lt_succ_iff.1 hi) with hlt | rfl
  · obtain ⟨v, h1, h2⟩ := h i hlt
    exact ⟨v, by rw [Array.getElem?_setIfInBounds_ne (by omega)]; exact h1, h2.since hw⟩
  · exact ⟨u, by simp [hs, hk], hu⟩

set_option maxRecDepth 100000 in
set_option maxHeartbeats 1000000 in
theorem toPagSliceSS_any (v : Value) (pss : List (List PgS)) (hn : totP pss ≤ 1048576) (w : World) {z : Nat} (h : PssAt w z v pss) :
    Calls Try.prog 21 #[v] w fun e w' => ∃ a cap, e = .returned (.slice a pss.length cap) ∧ PssAt w' w.heap.size (.slice a pss.length cap) pss ∧ Below w.heap.size w w' := by
  obtain ⟨a, cap, rfl, hlen⟩ := At.form h
  have hl : pss.length ≤ 1048576 := by unfold totP at hn; omega
  have hmk := makePs pss.length hl
  have H := Hid.intro h
  clear h
  go_enter Try.func21, Try.ntmps21
  go_wp2_with fail
  clear hmk
  go_loopw [4] (fun i W => ∃ (k : Nat) (arr : Array Value), k ≤ pss.length ∧ i = .int .i64 k ∧ Hid (W.heap[w.heap.size]? = some (.cells arr 41)) ∧ arr.size = pss.length ∧ Hid (PsArr W (w.heap.size + 1) arr pss k) ∧ Hid (Below w.heap.size w W) ∧ w.heap.size < W.heap.size) (fun i _ => pss.length - (intOf i).toNat)
  case atStart => exact ⟨0, newPs pss.length, Nat.zero_le _, rfl, newestB _ _, newPs_size _, fun i hi => absurd hi (Nat.not_lt_zero _), k_alloc (Below.refl _ _) _, by simp⟩
  case round =>
    obtain ⟨k, arr, hk, rfl, HBk, hsz, HA, HB, hw⟩ := hrel
    by_cases hlt : k < pss.length
    · obtain ⟨b, off, cap', u, e', hc1, hc2, hbl, hx0, hx⟩ := PssAt.get (H.out.kept HB.out) hlt
      simp only [Value.slice.injEq, true_and] at e'
      obtain ⟨rfl, rfl⟩ := e'
      have hlx : (pss.getD k []).length ≤ 1048576 := by
        have h1 := pTo_succ hlt
        have h2 := pTo_le pss (k + 1)
        unfold totP at hn
        omega
      have HN := Hid.intro (fun (w' : World) (hs : Since (w.heap.size + 1) wr w') (u : Value) (hu : PsAt w' (w.heap.size + 1) u (pss.getD k [])) => HA.out.next hsz hlt hs hu)
      generalize pss.getD k [] = x at hx HN hlx
      obtain ⟨ua, ucap, rfl, hul⟩ := At.form hx
      have HX := Hid.intro hx
      unfold maxLen at hc2
      clear hx hul
      go_wp2_with fail
      refine (toPagSliceS_any _ x hlx _ HX.out).mono ?_
      rintro e w1 ⟨a1, cap1, rfl, hC1, hb1⟩
      have B1 := (hb1.block w.heap.size hw).trans HBk.out
      have hw1 : w.heap.size < w1.heap.size := Nat.lt_of_lt_of_le hw hb1.size
      obtain ⟨y0, q0⟩ := someB (p := k) B1 (by omega)
      have fz : ∀ p, w1.frozen? ⟨w.heap.size, p, none⟩ = false := fun p => freeB B1
      have HB1 := Hid.intro B1
      have HK1 := Hid.intro (k_trans HB.out hb1)
      have HS1 := Hid.intro (Since.set (Since.of_below (z := w.heap.size + 1) hb1) (p := ⟨w.heap.size, k, none⟩) (Nat.lt_succ_self _) (.slice a1 x.length cap1))
      have HC1 := Hid.intro ((hC1.base (z' := w.heap.size + 1) hw).since (Since.set (Since.refl _ _) (p := ⟨w.heap.size, k, none⟩) (Nat.lt_succ_self _) (.slice a1 x.length cap1)))
      clear B1 hb1 HA HB HBk hC1 hx0
      go_wp2
      go_roundw
      case rel => exact ⟨k + 1, _, by omega, by go_num, setB HB1.out _, by rw [Array.size_setIfInBounds]; exact hsz, HN.out _ HS1.out _ HC1.out, k_set HK1.out (Nat.le_refl _) _, Nat.lt_of_lt_of_eq hw1 (by rw [sizeSet])⟩
      case measure => simp [intOf]; omega
    · obtain rfl : k = pss.length := by omega
      go_wp2
      go_ret
      refine ⟨_, _, rfl, ⟨_, _, rfl, Nat.le_refl _, hlen, fun i hi => ⟨w.heap.size, 0, rfl, hw, Nat.le_refl _, ?_⟩⟩, HB.out⟩
      obtain ⟨u, e1, e3⟩ := HA.out i hi
      rw [Nat.zero_add, Nat.mul_one]
      exact ⟨u, (cellB HBk.out).trans e1, e3.base (Nat.le_succ _)⟩

set_option maxRecDepth 100000 in
set_option maxHeartbeats 2000000 in
theorem eqPagSliceSS_any (v1 v2 : Value) (pss : List (List PgS)) (w : World) {z1 z2 : Nat} (h1 : PssAt w z1 v1 pss) (h2 : PssAt w z2 v2 pss) :
    Calls Try.prog 23 #[v1, v2] w fun e w' => e = .returned (.bool true) ∧ Below w.heap.size w w' := by
  obtain ⟨a1, cap1, rfl, hlen⟩ := At.form h1
  obtain ⟨a2, cap2, rfl, _⟩ := At.form h2
  unfold maxLen at hlen
  have hne : ((pss.length : Int) != (pss.length : Int)) = false := by simp
  have H1 := Hid.intro h1
  have H2 := Hid.intro h2
  clear h1 h2
  go_enter Try.func23, Try.ntmps23
  go_wp2_with fail
  go_loopw [5] (fun i W => ∃ k : Nat, k ≤ pss.length ∧ i = .int .i64 k ∧ Hid (Below w.heap.size w W)) (fun i _ => pss.length - (intOf i).toNat)
  case atStart => exact ⟨0, Nat.zero_le _, rfl, Below.refl _ _⟩
  case round =>
    obtain ⟨k, hk, rfl, HB⟩ := hrel
    by_cases hlt : k < pss.length
    · have hlt' : (k : Int) < (pss.length : Int) := by omega
      have h0' : (0 : Int) ≤ (k : Int) := by omega
      obtain ⟨b1, off1, cap1', u1, e1, hc11, hc12, hbl1, x0, x2⟩ := PssAt.get (H1.out.kept HB.out) hlt
      simp only [Value.slice.injEq, true_and] at e1
      obtain ⟨rfl, rfl⟩ := e1
      unfold maxLen at hc12
      obtain ⟨b2, off2, cap2', u2, e2, hc21, hc22, hbl2, y0, y2⟩ := PssAt.get (H2.out.kept HB.out) hlt
      simp only [Value.slice.injEq, true_and] at e2
      obtain ⟨rfl, rfl⟩ := e2
      unfold maxLen at hc22
      generalize pss.getD k [] = x at x2 y2
      obtain ⟨c1, d1, rfl, _⟩ := At.form x2
      obtain ⟨c2, d2, rfl, _⟩ := At.form y2
      have X2 := Hid.intro x2
      have Y2 := Hid.intro y2
      clear x2 y2
      go_wp2_with fail
      go_region_with (go_at_call 18; refine (eqPagSliceS_any _ _ x _ (X2.out.kept (k_drew (Below.refl _ _))) (Y2.out.kept (k_drew (Below.refl _ _)))).mono ?_; rintro e w1 ⟨rfl, hb1⟩; have HB1 := Hid.intro (k_trans (k_drew HB.out) hb1); clear hb1)
      all_goals
        go_wp2
        go_roundw
        case rel => exact ⟨k + 1, by omega, by go_num, HB1⟩
        case measure => simp [intOf]; omega
    · go_wp2
      go_ret
      exact ⟨rfl, HB.out⟩
end Go.Proofs.Ytfkkhfiiokhnaay
