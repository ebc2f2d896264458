/-
  PROVED HERE: a grid that the laws' own toGrdGrid makes owns its memory, and the laws' own markGrdGrid turns that memory alone.
-/
import Derived.Test.YtfkkhfiiokhnaatGrdTo
import Derived.Test.YtfkkhfiiokhnaatInts
namespace Go.Proofs.Ytfkkhfiiokhnaat
open Go.RowKit

/-- so many cells in a block of their own, at B or behind it, ahead of D -/
def OwnG (w : World) (B D : Nat) (v : Value) (n : Nat) : Prop :=
  ∃ g cap arr, v = .slice (some ⟨g, 0, none⟩) n cap ∧ B ≤ g ∧ g < D ∧ w.heap[g]? = some (.cells arr 43) ∧ arr.size = n * 5 ∧ n ≤ cap ∧ cap ≤ maxLen
theorem OwnG.kept {w w' : World} {B D n : Nat} {v : Value} (h : OwnG w B D v n) (k : ∀ j, B ≤ j → j < D → w'.heap[j]? = w.heap[j]?) : OwnG w' B D v n := by
  obtain ⟨g, cap, arr, hv, hb, hd, hg, r⟩ := h
  exact ⟨g, cap, arr, hv, hb, hd, (k g hb hd).trans hg, r⟩
theorem OwnG.below {w w' : World} {B D C n : Nat} {v : Value} (h : OwnG w B D v n) (k : Below C w w') (hC : D ≤ C) : OwnG w' B D v n := h.kept (fun j _ h2 => k.block j (Nat.lt_of_lt_of_le h2 hC))
theorem OwnG.since4 {w : World} {B B' D D' n : Nat} {v : Value} {p1 p2 p3 p4 : Addr} {u1 u2 u3 u4 : Value} (h : OwnG w B D v n) (hB : B' ≤ B) (h1 : p1.block < B) (h2 : p2.block < B) (h3 : p3.block < B) (h4 : p4.block < B) (hD : D' = D) :
    OwnG ((((w.setCell p1 u1).setCell p2 u2).setCell p3 u3).setCell p4 u4) B' D' v n := by
  subst hD
  obtain ⟨g, cap, arr, hv, hb, hd, hg, r⟩ := h
  refine ⟨g, cap, arr, hv, by omega, hd, ?_, r⟩
  rw [Below.heap_setCell _ _ _ _ (by omega), Below.heap_setCell _ _ _ _ (by omega), Below.heap_setCell _ _ _ _ (by omega), Below.heap_setCell _ _ _ _ (by omega)]
  exact hg

set_option maxRecDepth 100000 in
set_option maxHeartbeats 1000000 in
theorem toGrdCellS_own (v : Value) (gs : List GC) (hn : gs.length ≤ 1048576) (w : World) {z : Nat} (h : GsAt w z v gs) :
    Calls Try.prog 24 #[v] w fun e w' => ∃ a cap, e = .returned (.slice a gs.length cap) ∧ GsAt w' w.heap.size (.slice a gs.length cap) gs ∧ OwnG w' w.heap.size w'.heap.size (.slice a gs.length cap) gs.length ∧ Below w.heap.size w w' := by
  obtain ⟨a, cap, rfl, hlen⟩ := At.form h
  have hmk := makeG gs.length hn
  have H := Hid.intro h
  clear h
  go_enter Try.func24, Try.ntmps24
  go_wp2_with fail
  clear hmk
  go_loopw [4] (fun i W => ∃ (k : Nat) (arr : Array Value), k ≤ gs.length ∧ i = .int .i64 k ∧ Hid (W.heap[w.heap.size]? = some (.cells arr 43)) ∧ arr.size = gs.length * 5 ∧ Hid (∀ i, i < k → GArr arr (i * 5) (gs.getD i dG)) ∧ Hid (Below w.heap.size w W) ∧ w.heap.size < W.heap.size) (fun i _ => gs.length - (intOf i).toNat)
  case atStart => exact ⟨0, newG gs.length, Nat.zero_le _, rfl, newestB _ _, newG_size _, fun i hi => absurd hi (Nat.not_lt_zero _), k_alloc (Below.refl _ _) _, by simp⟩
  case round =>
    obtain ⟨k, arr, hk, rfl, HBk, hsz, HA, HB, hw⟩ := hrel
    by_cases hlt : k < gs.length
    · obtain ⟨b, off, cap', e', hc1, hc2, hbl, hx, hs⟩ := At.get (H.out.kept HB.out) hlt
      simp only [Value.slice.injEq, true_and] at e'
      obtain ⟨rfl, rfl⟩ := e'
      have HN := Hid.intro (put5_next hsz hlt HA.out)
      clear hs
      generalize gs.getD k dG = x at hx HN
      obtain ⟨x0, x1, x2, x3, x4⟩ := hx
      unfold maxLen at hc2
      go_wp2_with fail
      refine (toGrdCell_any _ _ _ _ _ _).mono ?_
      rintro e w1 ⟨rfl, hb1⟩
      have B1 := (hb1.block w.heap.size hw).trans HBk.out
      have hw1 : w.heap.size < w1.heap.size := Nat.lt_of_lt_of_le hw hb1.size
      obtain ⟨y0, q0⟩ := someB (p := k * 5) B1 (by omega)
      obtain ⟨y1, q1⟩ := someB (p := k * 5 + 1) B1 (by omega)
      obtain ⟨y2, q2⟩ := someB (p := k * 5 + 2) B1 (by omega)
      obtain ⟨y3, q3⟩ := someB (p := k * 5 + 3) B1 (by omega)
      obtain ⟨y4, q4⟩ := someB (p := k * 5 + 4) B1 (by omega)
      have fz : ∀ p, w1.frozen? ⟨w.heap.size, p, none⟩ = false := fun p => freeB B1
      have HB1 := Hid.intro B1
      have HK1 := Hid.intro (k_trans HB.out hb1)
      clear B1 hb1 HA HB HBk x0 x1 x2 x3 x4
      go_wp2
      go_roundw
      case rel => exact ⟨k + 1, put5 arr (k * 5) x, by omega, by go_num, setB (setB (setB (setB (setB HB1.out _) _) _) _) _, by rw [put5_size]; exact hsz, HN, (k_set (k_set (k_set (k_set (k_set HK1.out (Nat.le_refl _) _) (Nat.le_refl _) _) (Nat.le_refl _) _) (Nat.le_refl _) _) (Nat.le_refl _) _), Nat.lt_of_lt_of_eq hw1 (by iterate 5 rw [sizeSet])⟩
      case measure => simp [intOf]; omega
    · obtain rfl : k = gs.length := by omega
      go_wp2
      go_ret
      refine ⟨_, _, rfl, ⟨_, _, rfl, Nat.le_refl _, hlen, fun i hi => ⟨w.heap.size, 0, rfl, hw, Nat.le_refl _, ?_, ?_⟩⟩, ⟨w.heap.size, _, arr, rfl, Nat.le_refl _, hw, HBk.out, hsz, Nat.le_refl _, hlen⟩, HB.out⟩
      · rw [Nat.zero_add]; exact GIs.of_arr HBk.out (HA.out i hi)
      · obtain ⟨_, _, _, _, _, _, _, _, hs⟩ := At.get H.out hi; exact hs

set_option maxRecDepth 100000 in
set_option maxHeartbeats 1000000 in
theorem toGrdGrid_own (a b : Int) (v : Value) (gs : List GC) (hn : gs.length ≤ 1048576) (w : World) {z : Nat} (h : GsAt w z v gs) :
    Calls Try.prog 9 #[.agg #[.int .i64 a, .int .i64 b, v]] w fun e w' => ∃ ac cc, e = .returned (.agg #[.int .i64 a, .int .i64 b, .slice ac gs.length cc]) ∧ GsAt w' w.heap.size (.slice ac gs.length cc) gs ∧ OwnG w' w.heap.size w'.heap.size (.slice ac gs.length cc) gs.length ∧ Below w.heap.size w w' := by
  obtain ⟨c, cap, rfl, hlen⟩ := At.form h
  have H := Hid.intro h
  clear h
  go_enter Try.func9, Try.ntmps9
  go_wp2_with fail
  refine (toGrdCellS_own _ gs hn _ (H.out.kept (k_alloc (k_alloc (k_alloc (Below.refl _ _) _) _) _))).mono ?_
  rintro e w1 ⟨a1, cap1, rfl, hC1, hO1, hb1⟩
  obtain ⟨hc1, hf1⟩ := bcell hb1
  have hz1 : w.heap.size + 1 + 1 < w1.heap.size := by have := hb1.size; simp at this; omega
  have hy1 : w.heap.size + 1 < w1.heap.size := by omega
  have hx1 : w.heap.size < w1.heap.size := by omega
  have HC1 := Hid.intro hC1
  have HO1 := Hid.intro hO1
  have HB1 := Hid.intro hb1
  clear hC1 hb1 hO1
  go_wp2
  refine bodyPost_ret (v := .agg #[.int .i64 a, .int .i64 b, .slice a1 gs.length cap1]) (by simp [results, Try.results9, go_sem, hc1]) rfl ⟨a1, cap1, rfl, ?_, ?_, ?_⟩
  · exact (HC1.out.since (Since.set (Since.set (Since.set (Since.set (Since.refl _ _) (by simp) _) (by simp) _) (by simp) _) (by simp) _)).base (by simp; omega)
  · exact HO1.out.since4 (by simp; omega) (by simp) (by simp) (by simp) (by simp) (by iterate 4 rw [sizeSet])
  · exact k_set (k_set (k_set (k_set (k_trans (k_alloc (k_alloc (k_alloc (Below.refl _ _) _) _) _) HB1.out) (by dsimp only; omega) _) (by dsimp only; omega) _) (by dsimp only; omega) _) (by dsimp only; omega) _


set_option maxRecDepth 100000 in
set_option maxHeartbeats 2000000 in
theorem markGrdCellS_any (v : Value) (n : Nat) (hn : n ≤ 1048576) (B D : Nat) (w : World) (h : OwnG w B D v n) :
    Calls Try.prog 31 #[v, .int .i64 1] w fun e w' => e = .returned (.int .i64 (1 + 5 * (n : Int))) ∧ Out B D w w' := by
  obtain ⟨g, cap, arr0, rfl, hgb, hgd, hg0, hsz0, hc1, hc2⟩ := h
  unfold maxLen at hc2
  go_enter Try.func31, Try.ntmps31
  go_wp2_with fail
  go_loopw [1, 5] (fun q i W => ∃ (k : Nat) (arr : Array Value), k ≤ n ∧ i = .int .i64 k ∧ q = .int .i64 (1 + 5 * (k : Int)) ∧ Hid (W.heap[g]? = some (.cells arr 43)) ∧ arr.size = n * 5 ∧ Hid (Out B D w W)) (fun _ i _ => n - (intOf i).toNat)
  case atStart => exact ⟨0, arr0, Nat.zero_le _, rfl, by simp, hg0, hsz0, Out.refl _ _ _⟩
  case round =>
    obtain ⟨k, arr, hk, rfl, rfl, HG, hsz, HO⟩ := hrel
    by_cases hlt : k < n
    · obtain ⟨y0, q0⟩ := someB (p := k * 5) HG.out (by omega)
      obtain ⟨y1, q1⟩ := someB (p := k * 5 + 1) HG.out (by omega)
      obtain ⟨y2, q2⟩ := someB (p := k * 5 + 2) HG.out (by omega)
      obtain ⟨y3, q3⟩ := someB (p := k * 5 + 3) HG.out (by omega)
      obtain ⟨y4, q4⟩ := someB (p := k * 5 + 4) HG.out (by omega)
      have fz : ∀ p, wr.frozen? ⟨g, p, none⟩ = false := fun p => freeB HG.out
      go_wp2
      go_roundw
      case rel => exact ⟨k + 1, _, by omega, by go_num, by go_num, setB (setB (setB (setB (setB HG.out _) _) _) _) _, by simp [hsz], ((((HO.out.set hgb hgd _).set hgb hgd _).set hgb hgd _).set hgb hgd _).set hgb hgd _⟩
      case measure => simp [intOf]; omega
    · obtain rfl : k = n := by omega
      go_wp2
      go_ret
      exact ⟨rfl, HO.out⟩

set_option maxRecDepth 100000 in
set_option maxHeartbeats 1000000 in
theorem markGrdGrid_any (a b : Int) (v : Value) (n : Nat) (hn : n ≤ 1048576) (B D : Nat) (w : World) (hD : D ≤ w.heap.size) (h : OwnG w B D v n) :
    Calls Try.prog 17 #[.agg #[.int .i64 a, .int .i64 b, v], .int .i64 1] w fun e w' => e = .returned (.int .i64 (1 + 5 * (n : Int))) ∧ Out B D w w' := by
  have H := Hid.intro (h.below (Below.refl D w |>.alloc (by omega) (.cells #[.int .i64 a, .int .i64 b, v] 29)) (Nat.le_refl _))
  obtain ⟨g, cap, arr0, rfl, _⟩ := h
  go_enter Try.func17, Try.ntmps17
  go_wp2_with fail
  refine (markGrdCellS_any _ n hn B D _ H.out).mono ?_
  rintro e w1 ⟨rfl, ho⟩
  have HO : Hid (Out B D w w1) := ⟨((Below.refl B w).alloc (by have := H.out; obtain ⟨_, _, _, _, h1, h2, _⟩ := this; omega) _).trans ho.below, fun k h1 h2 => (ho.block k h1 (by simp; omega)).trans (Below.heap_alloc _ _ _ h2)⟩
  clear ho
  go_wp2
  go_ret
  exact ⟨rfl, HO.out⟩
end Go.Proofs.Ytfkkhfiiokhnaat
