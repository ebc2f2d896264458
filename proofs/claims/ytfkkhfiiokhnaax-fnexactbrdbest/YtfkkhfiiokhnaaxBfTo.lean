/-
  PROVED HERE: what the laws' own szBrdFromS, toBrdFromS, eqBrdFrom, eqBrdFromS answer; nothing that was in memory is turned.
-/
import Derived.Test.YtfkkhfiiokhnaaxBbB
import Derived.WalkLawsBesides
import Derived.WalkSpells
import Derived.Deep.RegionWith
namespace Go.Proofs.Ytfkkhfiiokhnaax
open Go.RowKit

set_option maxRecDepth 100000 in
theorem szBrdFromS_any (v : Value) (ps : List Fr) (n : Int) (h0 : 0 ≤ n) (hn : n ≤ 1048576) (w : World) {z : Nat} (h : FrsAt w z v ps) :
    Calls Try.prog 12 #[v, .int .i64 n] w fun e w' => e = .returned (.int .i64 (leftOf n ps.length)) ∧ Below w.heap.size w w' := by
  obtain ⟨a, cap, rfl, hlen⟩ := At.form h
  unfold maxLen at hlen
  clear h
  by_cases hl : (ps.length : Int) ≤ n
  · have hl' : ¬ n - (ps.length : Int) < 0 := by omega
    rw [leftOf_pos hl]
    go_enter Try.func12, Try.ntmps12
    go_wp2
    go_ret
    exact ⟨rfl, Below.refl _ _⟩
  · have hl' : n - (ps.length : Int) < 0 := by omega
    rw [leftOf_neg hl]
    go_enter Try.func12, Try.ntmps12
    go_wp2
    go_ret
    exact ⟨rfl, Below.refl _ _⟩

theorem toBrdLine_any (x0 x1 : Int) (w : World) :
    Calls Try.prog 10 #[.agg #[.int .i64 x0, .int .i64 x1]] w fun e w' => e = .returned (.agg #[.int .i64 x0, .int .i64 x1]) ∧ Below w.heap.size w w' := by
  go_enter Try.func10, Try.ntmps10
  go_wp2
  refine bodyPost_ret (v := .agg #[.int .i64 x0, .int .i64 x1]) (by simp [results, Try.results10, go_sem]) rfl ⟨rfl, ?_⟩
  exact k_alloc (k_alloc (k_alloc (Below.refl _ _) _) _) _
set_option maxRecDepth 100000 in
set_option maxHeartbeats 1000000 in
theorem toBrdFrom_any (x0 x1 x2 : Int) (w : World) :
    Calls Try.prog 33 #[.agg #[.int .i64 x0, .int .i64 x1, .int .i64 x2]] w fun e w' => e = .returned (.agg #[.int .i64 x0, .int .i64 x1, .int .i64 x2]) ∧ Below w.heap.size w w' := by
  go_enter Try.func33, Try.ntmps33
  go_wp2_with fail
  refine (toBrdLine_any _ _ _).mono ?_
  rintro e w1 ⟨rfl, hb1⟩
  obtain ⟨hc1, hf1⟩ := bcell hb1
  have hz1 : w.heap.size + 1 + 1 < w1.heap.size := by have := hb1.size; simp at this; omega
  have hy1 : w.heap.size + 1 < w1.heap.size := by omega
  have hx1 : w.heap.size < w1.heap.size := by omega
  have HB1 := Hid.intro hb1
  clear hb1
  go_wp2
  refine bodyPost_ret (v := .agg #[.int .i64 x0, .int .i64 x1, .int .i64 x2]) (by simp [results, Try.results33, go_sem, hc1]) rfl ⟨rfl, ?_⟩
  exact (k_set (k_set (k_set (k_set (k_set (k_set (k_trans (k_alloc (k_alloc (k_alloc (Below.refl _ _) _) _) _) HB1.out) (by dsimp only; omega) _) (by dsimp only; omega) _) (by dsimp only; omega) _) (by dsimp only; omega) _) (by dsimp only; omega) _) (by dsimp only; omega) _)

/-- the three cells of a slice in an array -/
def FArr (arr : Array Value) (o : Nat) (x : Fr) : Prop := arr[o]? = some (.int .i64 x.s) ∧ arr[o + 1]? = some (.int .i64 x.w) ∧ arr[o + 2]? = some (.int .i64 x.c)
def putF (arr : Array Value) (o : Nat) (x : Fr) : Array Value := ((arr.setIfInBounds o (.int .i64 x.s)).setIfInBounds (o + 1) (.int .i64 x.w)).setIfInBounds (o + 2) (.int .i64 x.c)
theorem putF_size (arr : Array Value) (o : Nat) (x : Fr) : (putF arr o x).size = arr.size := by simp [putF]
theorem putF_before (arr : Array Value) (o : Nat) (x : Fr) (p : Nat) (h : p < o) : (putF arr o x)[p]? = arr[p]? := by
  unfold putF
  iterate 3 rw [Array.getElem?_setIfInBounds_ne (by omega)]
theorem putF_at (arr : Array Value) (o : Nat) (x : Fr) (h : o + 2 < arr.size) : FArr (putF arr o x) o x := by
  have ne : ∀ (A : Array Value) (i j : Nat) (v : Value), i ≠ j → (A.setIfInBounds i v)[j]? = A[j]? := fun A i j v hij => Array.getElem?_setIfInBounds_ne hij
  have eq : ∀ (A : Array Value) (i : Nat) (v : Value), i < A.size → (A.setIfInBounds i v)[i]? = some v := fun A i v hi => by simp [hi]
  unfold FArr putF
  refine ⟨?_, ?_, ?_⟩
  · iterate 2 rw [ne _ _ _ _ (by omega)]
    exact eq _ _ _ (by first | omega | (simp; omega))
  · iterate 1 rw [ne _ _ _ _ (by omega)]
    exact eq _ _ _ (by first | omega | (simp; omega))
  · exact eq _ _ _ (by first | omega | (simp; omega))
theorem FArr.of_same {a b : Array Value} {o : Nat} {x : Fr} (h : FArr a o x) (e : ∀ p, o ≤ p → p ≤ o + 2 → b[p]? = a[p]?) : FArr b o x := by
  unfold FArr at h ⊢
  rw [e o (by omega) (by omega), e (o + 1) (by omega) (by omega), e (o + 2) (by omega) (by omega)]
  exact h
theorem putF_next {arr : Array Value} {ps : List Fr} {k : Nat} (hs : arr.size = ps.length * 3) (hk : k < ps.length) (h : ∀ i, i < k → FArr arr (i * 3) (ps.getD i dF)) :
    ∀ i, i < k + 1 → FArr (putF arr (k * 3) (ps.getD k dF)) (i * 3) (ps.getD i dF) := by
  intro i hi
  rcases Nat.lt_or_eq_of_le (Nat.lt_succ_iff.1 hi) with h1 | rfl
  · exact (h i h1).of_same (fun p hp1 hp2 => putF_before _ _ _ _ (by omega))
  · exact putF_at _ _ _ (by omega)
theorem fis_of_arr {w : World} {g o : Nat} {arr : Array Value} {t : TypeId} {x : Fr} (h : w.heap[g]? = some (.cells arr t)) (hx : FArr arr o x) : w.cell? ⟨g, o, none⟩ = some (.int .i64 x.s) ∧ w.cell? ⟨g, o + 1, none⟩ = some (.int .i64 x.w) ∧ w.cell? ⟨g, o + 2, none⟩ = some (.int .i64 x.c) := by
  simp only [cellB h]
  exact hx

/-- the new array of so many slices -/
def newF (n : Nat) : Array Value := madeCells (Value.agg #[.int .i64 0, .int .i64 0, .int .i64 0]).cells (n * 3)
theorem newF_size (n : Nat) : (newF n).size = n * 3 := size_madeCells _ _
theorem infoF3 : (Try.prog.info? 31).map (fun i => (i.zero, i.size, i.bytes)) = some (some (Value.agg #[.int .i64 0, .int .i64 0, .int .i64 0]), 3, 24) := by kernel_rfl
theorem makeF (n : Nat) (hn : n ≤ 1048576) (u : World) : (Instr.makeSlice 33 (.int .i64 (n : Int)) (.int .i64 (n : Int))).run Try.prog u = .ok (.slice (some ⟨u.heap.size, 0, none⟩) n n) (u.alloc (.cells (newF n) 31)) := by
  obtain ⟨i0, hi, hz0, hz1, hz2⟩ := info_parts infoF3
  have h := run_make (P := Try.prog) u 33 31 i0 _ Try.underlying33 hi hz0 .i64 .i64 (n : Int) (n : Int) (by omega) (Int.le_refl _) (by rw [hz2]; omega) (by omega)
  rw [hz1, Int.toNat_natCast] at h
  exact h

set_option maxRecDepth 100000 in
set_option maxHeartbeats 1000000 in
theorem toBrdFromS_any (v : Value) (ps : List Fr) (hn : ps.length ≤ 1048576) (w : World) {z : Nat} (h : FrsAt w z v ps) :
    Calls Try.prog 14 #[v] w fun e w' => ∃ a cap, e = .returned (.slice a ps.length cap) ∧ FrsAt w' w.heap.size (.slice a ps.length cap) ps ∧ Below w.heap.size w w' := by
  obtain ⟨a, cap, rfl, hlen⟩ := At.form h
  have hmk := makeF ps.length hn
  have H := Hid.intro h
  clear h
  go_enter Try.func14, Try.ntmps14
  go_wp2_with fail
  clear hmk
  go_loopw [4] (fun i W => ∃ (k : Nat) (arr : Array Value), k ≤ ps.length ∧ i = .int .i64 k ∧ Hid (W.heap[w.heap.size]? = some (.cells arr 31)) ∧ arr.size = ps.length * 3 ∧ Hid (∀ i, i < k → FArr arr (i * 3) (ps.getD i dF)) ∧ Hid (Below w.heap.size w W) ∧ w.heap.size < W.heap.size) (fun i _ => ps.length - (intOf i).toNat)
  case atStart => exact ⟨0, newF ps.length, Nat.zero_le _, rfl, newestB _ _, newF_size _, fun i hi => absurd hi (Nat.not_lt_zero _), k_alloc (Below.refl _ _) _, by simp⟩
  case round =>
    obtain ⟨k, arr, hk, rfl, HBk, hsz, HA, HB, hw⟩ := hrel
    by_cases hlt : k < ps.length
    · obtain ⟨b, off, cap', e', hc1, hc2, hbl, hx⟩ := At.get (H.out.kept HB.out) hlt
      simp only [Value.slice.injEq, true_and] at e'
      obtain ⟨rfl, rfl⟩ := e'
      have HN := Hid.intro (putF_next hsz hlt HA.out)
      generalize ps.getD k dF = x at hx HN
      obtain ⟨x0, x1, x2⟩ := hx
      unfold maxLen at hc2
      go_wp2_with fail
      refine (toBrdFrom_any _ _ _ _).mono ?_
      rintro e w1 ⟨rfl, hb1⟩
      have B1 := (hb1.block w.heap.size hw).trans HBk.out
      have hw1 : w.heap.size < w1.heap.size := Nat.lt_of_lt_of_le hw hb1.size
      obtain ⟨y0, q0⟩ := someB (p := k * 3) B1 (by omega)
      obtain ⟨y1, q1⟩ := someB (p := k * 3 + 1) B1 (by omega)
      obtain ⟨y2, q2⟩ := someB (p := k * 3 + 2) B1 (by omega)
      have fz : ∀ p, w1.frozen? ⟨w.heap.size, p, none⟩ = false := fun p => freeB B1
      have HB1 := Hid.intro B1
      have HK1 := Hid.intro (k_trans HB.out hb1)
      clear B1 hb1 HA HB HBk x0 x1 x2
      go_wp2
      go_roundw
      case rel => exact ⟨k + 1, putF arr (k * 3) x, by omega, by go_num, setB (setB (setB HB1.out _) _) _, by rw [putF_size]; exact hsz, HN, k_set (k_set (k_set HK1.out (Nat.le_refl _) _) (Nat.le_refl _) _) (Nat.le_refl _) _, Nat.lt_of_lt_of_eq hw1 (by iterate 3 rw [sizeSet])⟩
      case measure => simp [intOf]; omega
    · obtain rfl : k = ps.length := by omega
      go_wp2
      go_ret
      refine ⟨_, _, rfl, ⟨_, _, rfl, Nat.le_refl _, hlen, fun i hi => ⟨w.heap.size, 0, rfl, hw, Nat.le_refl _, ?_⟩⟩, HB.out⟩
      rw [Nat.zero_add]; exact fis_of_arr HBk.out (HA.out i hi)

theorem eqBrdLine_any (a b : Int) (w : World) :
    Calls Try.prog 35 #[.agg #[.int .i64 a, .int .i64 b], .agg #[.int .i64 a, .int .i64 b]] w fun e w' => e = .returned (.bool true) ∧ Below w.heap.size w w' := by
  have h0 : (a != a) = false := by simp
  have h1 : (b != b) = false := by simp
  go_enter Try.func35, Try.ntmps35
  go_wp2
  go_ret
  exact ⟨rfl, k_alloc (k_alloc (Below.refl _ _) _) _⟩
set_option maxRecDepth 100000 in
theorem eqBrdFrom_any (x : Fr) (w : World) :
    Calls Try.prog 16 #[.agg #[.int .i64 x.s, .int .i64 x.w, .int .i64 x.c], .agg #[.int .i64 x.s, .int .i64 x.w, .int .i64 x.c]] w fun e w' => e = .returned (.bool true) ∧ Below w.heap.size w w' := by
  have h2 : (x.c != x.c) = false := by simp
  go_enter Try.func16, Try.ntmps16
  go_wp2_with fail
  refine (eqBrdLine_any _ _ _).mono ?_
  rintro e w1 ⟨rfl, hb1⟩
  obtain ⟨hc1, hf1⟩ := bcell hb1
  have HB1 := Hid.intro (k_trans (k_alloc (k_alloc (Below.refl _ _) _) _) hb1)
  have hy1 : w.heap.size + 1 < w1.heap.size := by have := hb1.size; simp at this; omega
  have hx1 : w.heap.size < w1.heap.size := by omega
  clear hb1
  go_wp2
  go_ret
  exact ⟨rfl, HB1.out⟩

set_option maxRecDepth 100000 in
set_option maxHeartbeats 2000000 in
theorem eqBrdFromS_any (v1 v2 : Value) (ps : List Fr) (w : World) {z1 z2 : Nat} (h1 : FrsAt w z1 v1 ps) (h2 : FrsAt w z2 v2 ps) :
    Calls Try.prog 17 #[v1, v2] w fun e w' => e = .returned (.bool true) ∧ Below w.heap.size w w' := by
  obtain ⟨a1, cap1, rfl, hlen⟩ := At.form h1
  obtain ⟨a2, cap2, rfl, _⟩ := At.form h2
  unfold maxLen at hlen
  have hne : ((ps.length : Int) != (ps.length : Int)) = false := by simp
  have H1 := Hid.intro h1
  have H2 := Hid.intro h2
  clear h1 h2
  go_enter Try.func17, Try.ntmps17
  go_wp2_with fail
  go_loopw [5] (fun i W => ∃ k : Nat, k ≤ ps.length ∧ i = .int .i64 k ∧ Hid (Below w.heap.size w W)) (fun i _ => ps.length - (intOf i).toNat)
  case atStart => exact ⟨0, Nat.zero_le _, rfl, Below.refl _ _⟩
  case round =>
    obtain ⟨k, hk, rfl, HB⟩ := hrel
    by_cases hlt : k < ps.length
    · have hlt' : (k : Int) < (ps.length : Int) := by omega
      have h0' : (0 : Int) ≤ (k : Int) := by omega
      obtain ⟨b1, off1, cap1', e1, hc11, hc12, hbl1, hx⟩ := At.get (H1.out.kept HB.out) hlt
      simp only [Value.slice.injEq, true_and] at e1
      obtain ⟨rfl, rfl⟩ := e1
      unfold maxLen at hc12
      obtain ⟨b2, off2, cap2', e2, hc21, hc22, hbl2, hy⟩ := At.get (H2.out.kept HB.out) hlt
      simp only [Value.slice.injEq, true_and] at e2
      obtain ⟨rfl, rfl⟩ := e2
      unfold maxLen at hc22
      generalize ps.getD k dF = x at hx hy
      obtain ⟨x0, x1, x2⟩ := hx
      obtain ⟨y0, y1, y2⟩ := hy
      go_wp2_with fail
      go_region_with (go_at_call 16; refine (eqBrdFrom_any x _).mono ?_; rintro e w1 ⟨rfl, hb1⟩; have HB1 := Hid.intro (k_trans (k_drew HB.out) hb1); clear hb1)
      all_goals
        go_wp2
        go_roundw
        case rel => exact ⟨k + 1, by omega, by go_num, HB1⟩
        case measure => simp [intOf]; omega
    · go_wp2
      go_ret
      exact ⟨rfl, HB.out⟩
end Go.Proofs.Ytfkkhfiiokhnaax
