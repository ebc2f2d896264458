/-
  PROVED HERE: what slices.Insert answers of rows that are owned, a row without cells, and a place ahead of the last one, where there is no room. Also: what the closure of the program's EdtRow does: a row without cells comes between the copy's rows, and nothing else that was in memory is turned. Also: what the program's behind answers with the closure of EdtRow: what the copy is behind the closure, or the copy as it was; nothing else is turned.
-/
import Derived.Test.YtggmjiddadjilakB8
import Derived.Test.YtggmjiddadjilakB4
import Derived.Shelf.Spec.SlicesInsertGrow
namespace Go.Proofs.Ytggmjiddadjilak
open Go.RowKit

theorem ins_row2 {α : Type} (R xs : List α) (a b : α) (i n G : Nat) (hx : R.take (i * 2) = xs.take (i * 2)) (hR : R.length = G * 2) (hxl : xs.length = n * 2) (hi : i < n) (hG : n + 1 ≤ G) (A1 : List α) (hA : A1 = R.take (i * 2) ++ [a, b] ++ R.drop (i * 2 + 2)) :
    (A1.take ((i + 1) * 2) ++ xs.drop (i * 2) ++ A1.drop ((i + 1) * 2 + (xs.drop (i * 2)).length)).take ((n + 1) * 2) = xs.take (i * 2) ++ [a, b] ++ xs.drop (i * 2) ∧ (A1.take ((i + 1) * 2) ++ xs.drop (i * 2) ++ A1.drop ((i + 1) * 2 + (xs.drop (i * 2)).length)).length = G * 2 ∧ A1.length = G * 2 := by
  have hl : A1.length = G * 2 := by
    rw [hA]
    simp only [List.length_append, List.length_take, List.length_drop, hR, List.length_cons, List.length_nil]
    omega
  have e1 : A1.take ((i + 1) * 2) = xs.take (i * 2) ++ [a, b] := by
    rw [hA, hx]
    exact List.take_left' (by simp only [List.length_append, List.length_take, hxl, List.length_cons, List.length_nil]; omega)
  refine ⟨?_, ?_, hl⟩
  · rw [e1]
    exact List.take_left' (by simp only [List.length_append, List.length_take, List.length_drop, hxl, List.length_cons, List.length_nil]; omega)
  · simp only [List.length_append, List.length_take, List.length_drop, hxl, hl]
    omega
set_option maxRecDepth 100000 in
set_option maxHeartbeats 4000000 in
theorem insertRow_grow (g c n i vb : Nat) (xs : List Value) (B : Nat) (w : World) (h : w.ownsRow B 37 2 (.slice (some ⟨g, 0, none⟩) n c) n xs) (h1x : ∀ u ∈ xs, u.oneCell' = true) (hi : i < n) (hn8 : n ≤ 8) (hroom : c < n + 1) (hB : B ≤ w.heap.size) (hv : w.heap[vb]? = some (.cells #[.slice none 0 0, .bool false] 37)) :
    Calls Try.prog 21 #[.slice (some ⟨g, 0, none⟩) n c, .int .i64 i, .slice (some ⟨vb, 0, none⟩) 1 1] w fun e w' => ∃ a9 c9, e = .returned (.slice a9 (n + 1) c9) ∧ w'.ownsRow B 37 2 (.slice a9 (n + 1) c9) (n + 1) (xs.take (i * 2) ++ [.slice none 0 0, .bool false] ++ xs.drop (i * 2)) ∧ w.grownBy w' (some g) := by
  obtain ⟨i0, hi0, hz0, hz1, hz2⟩ := info_parts infoRown
  rcases h.2 with ⟨e, _⟩ | ⟨g', cap', cur, e, hg, hc, a1, a2, a3, a4⟩
  · simp at e
  simp only [Value.slice.injEq, Option.some.injEq, Addr.mk.injEq, and_true] at e
  obtain ⟨rfl, _, rfl⟩ := e
  unfold maxLen at a2
  have hxl : xs.length = n * 2 := h.1
  have hsz : (Try.prog.info? 37).map (·.size) = some 2 := by rw [hi0]; simp [hz1]
  have hgl : g < w.heap.size := (Array.getElem?_eq_some_iff.1 hc).1
  have hvl : vb < w.heap.size := (Array.getElem?_eq_some_iff.1 hv).1
  have hcont : ∀ j v, xs[j]? = some v → w.cell? ⟨g, j, none⟩ = some v := fun j v hj => by
    rw [cellB hc]
    rw [← a4, List.getElem?_take] at hj
    split at hj
    · rw [← Array.getElem?_toList]; exact hj
    · cases hj
  have hold : (Builtin.firstCells i0.size i (.slice (some ⟨g, 0, none⟩) i c)).run Try.prog w.drew = .ok (xs.take (i * 2)).toArray w.drew := by
    rw [hz1]
    exact run_firstCells_some w.drew 2 i ⟨g, 0, none⟩ i c (xs.take (i * 2)) (by rw [List.length_take, hxl]; omega) (fun j v hj => by
      rw [Addr.add_lit, Nat.zero_add, World.cell?_drew]
      rw [List.getElem?_take] at hj
      split at hj
      · exact hcont j v hj
      · cases hj)
  have hkk : (n : Int) + 1 - (i : Int) = ((n + 1 - i : Nat) : Int) := by omega
  have hik : i + (n + 1 - i) = n + 1 := by omega
  obtain ⟨G, hG⟩ : ∃ G, G = grownCap w (n + 1) c 37 := ⟨_, rfl⟩
  have hGn : n + 1 ≤ G := by rw [hG]; exact grownCap_ge w _ _ _
  have hG63 : G ≤ 9223372036854775807 := by
    have := grownCap_le_maxLen w (n + 1) c 37 (by unfold maxLen; omega)
    rw [← hG] at this
    unfold maxLen at this
    omega
  obtain ⟨ROW, hROW⟩ : ∃ ROW : Array Value, ROW = (xs.take (i * 2)).toArray ++ Builtin.zeroCells (Value.agg #[.slice none 0 0, .bool false]).cells (n + 1 - i) ++ Builtin.zeroCells (Value.agg #[.slice none 0 0, .bool false]).cells (G - (n + 1)) := ⟨_, rfl⟩
  have hrz : ∀ ty, (Builtin.append_ #[24, 3] ty #[.slice (some ⟨g, 0, none⟩) i c, .int .i64 ((n : Int) + 1 - (i : Int))]).run Try.prog w = .ok (.slice (some ⟨w.heap.size, 0, none⟩) (n + 1) G) (w.drew.alloc (.cells ROW 37)) := fun ty => by
    have h := Lib.run_append_grow_zeros w 24 3 ty 37 i0 _ .i64 .i64 Try.underlying24 Try.underlying3 hi0 hz0 (some ⟨g, 0, none⟩) i c (xs.take (i * 2)) hold (n + 1 - i) (by omega) (by omega) (by omega) (by omega) (by rw [hz2]; omega) (by rw [hz2, hik]; exact growslice_fits hroom (by omega))
    rw [hik] at h
    rw [hkk, hROW, hG]
    exact h
  have hRl : ROW.toList.length = G * 2 := by
    rw [hROW]
    simp [Builtin.zeroCells, Value.cells, hxl]
    omega
  have hRt : ROW.toList.take (i * 2) = xs.take (i * 2) := by
    rw [hROW]
    simp only [Array.toList_append, List.append_assoc]
    exact List.take_left' (by rw [List.length_take, hxl]; omega)
  obtain ⟨L1, hL1⟩ : ∃ L1, L1 = ROW.toList.take (i * 2) ++ [Value.slice none 0 0, Value.bool false] ++ ROW.toList.drop (i * 2 + 2) := ⟨_, rfl⟩
  obtain ⟨hT, hLn, hL1n⟩ := ins_row2 ROW.toList xs (Value.slice none 0 0) (Value.bool false) i n G hRt hRl hxl hi hGn L1 hL1
  obtain ⟨A2, hA2⟩ : ∃ A2, A2 = (L1.take ((i + 1) * 2) ++ xs.drop (i * 2) ++ L1.drop ((i + 1) * 2 + (xs.drop (i * 2)).length)).toArray := ⟨_, rfl⟩
  have hdl : (xs.drop (i * 2)).length = (n - i) * 2 := by rw [List.length_drop, hxl]; omega
  have hcpA : ∀ (W : World), W.heap[w.heap.size]? = some (.cells ROW 37) → W.heap[vb]? = some (.cells #[.slice none 0 0, .bool false] 37) → ∀ ty dc, (Builtin.copy_ #[24, 24] ty #[.slice (some ⟨w.heap.size, i * 2, none⟩) (n + 1 - i) dc, .slice (some ⟨vb, 0, none⟩) 1 1]).run Try.prog W = .ok (goInt (Nat.min 1 (n + 1 - i))) (W.setRow w.heap.size L1.toArray) := fun W hW hWv ty dc => by
    rw [hL1]
    exact run_copy_wide W _ _ ty 37 2 w.heap.size (i * 2) (n + 1 - i) dc ⟨vb, 0, none⟩ 1 1 ROW 37 [.slice none 0 0, .bool false] Try.underlying24 hsz hW (by show 2 = _; simp only [Nat.min_def]; split <;> omega) (news_at hWv) (by rw [← Array.length_toList, hRl]; show i * 2 + 2 ≤ _; omega) (by simp [Value.oneCell'])
  have hcpB : ∀ (W : World), W.heap[w.heap.size]? = some (.cells L1.toArray 37) → W.heap[g]? = some (.cells cur 37) → ∀ ty dc sc, (Builtin.copy_ #[24, 24] ty #[.slice (some ⟨w.heap.size, (i + 1) * 2, none⟩) (n - i) dc, .slice (some ⟨g, i * 2, none⟩) (n - i) sc]).run Try.prog W = .ok (goInt (Nat.min (n - i) (n - i))) (W.setRow w.heap.size A2) := fun W hW hWg ty dc sc => by
    rw [hA2]
    exact run_copy_wide W _ _ ty 37 2 w.heap.size ((i + 1) * 2) (n - i) dc ⟨g, i * 2, none⟩ (n - i) sc L1.toArray 37 (xs.drop (i * 2)) Try.underlying24 hsz hW (by rw [hdl]; simp only [Nat.min_def]; split <;> omega)
      (fun j v hj => by
        rw [Addr.add_lit, cellB hWg, ← cellB (p := i * 2 + j) hc]
        rw [List.getElem?_drop] at hj
        exact hcont _ v hj)
      (by rw [hdl, List.size_toArray, hL1n]; omega) (fun v hv => h1x v (List.mem_of_mem_drop hv))
  have HF : Hid (∀ X : World, X.heap.size = w.heap.size + 1 → X.heap[w.heap.size]? = some (.cells L1.toArray 37) → (∀ k, k < w.heap.size → X.heap[k]? = w.heap[k]?) → X.os = w.os → X.tape = w.tape → X.output = w.output → (X.setRow w.heap.size A2).ownsRow B 37 2 (.slice (some ⟨w.heap.size, 0, none⟩) (n + 1) G) (n + 1) (xs.take (i * 2) ++ [.slice none 0 0, .bool false] ++ xs.drop (i * 2)) ∧ w.grownBy (X.setRow w.heap.size A2) (some g)) := fun X hXs hX hXo ho ht hu => by
    rw [hA2]
    refine ⟨⟨by rw [← hT, List.length_take, hLn]; omega, .inr ⟨w.heap.size, G, _, rfl, hB, setRow_heap X _ _ _ _ _ hX, hGn, by unfold maxLen; exact hG63, by rw [List.size_toArray]; exact hLn, hT⟩⟩, ⟨ho, ht, hu, ?_, fun k hk _ => ?_⟩⟩
    · simp [World.setRow, hXs]
    · rw [setRow_other X w.heap.size k _ (by omega)]
      exact hXo k hk
  have hW1N : (w.alloc (.cells ROW 37)).heap[w.heap.size]? = some (.cells ROW 37) := newestB _ _
  have hW1k : ∀ k, k < w.heap.size → (w.alloc (.cells ROW 37)).heap[k]? = w.heap[k]? := fun k hk => Below.heap_alloc w _ k hk
  have hW2N : ((w.alloc (.cells ROW 37)).drew.setRow w.heap.size L1.toArray).heap[w.heap.size]? = some (.cells L1.toArray 37) := setRow_heap _ _ _ _ _ _ hW1N
  have hW2k : ∀ k, k < w.heap.size → ((w.alloc (.cells ROW 37)).drew.setRow w.heap.size L1.toArray).heap[k]? = w.heap[k]? := fun k hk => (setRow_other _ w.heap.size k _ (by omega)).trans (hW1k k hk)
  have HW1v := Hid.intro ((hW1k vb hvl).trans hv)
  have HW2g := Hid.intro ((hW2k g hgl).trans hc)
  have HW1N := Hid.intro hW1N
  have HW2N := Hid.intro hW2N
  have HW2k := Hid.intro hW2k
  have KA := hcpA ((w.alloc (.cells ROW 37)).drew) HW1N.out HW1v.out
  have KB := hcpB (((w.alloc (.cells ROW 37)).drew.setRow w.heap.size L1.toArray).drew) HW2N.out HW2g.out
  have mixed : Try.prog.follows .mixedOrders = true := by kernel_rfl
  have hw1 : IntKind.i64.wrap ((i : Int) + 1) = (i : Int) + 1 := by rw [IntKind.wrap_i64]; omega
  have hb1 : (0 : Int) ≤ (i : Int) + 1 := by omega
  have htn : ((i : Int) + 1).toNat = i + 1 := by omega
  have hb5 : (i : Int) + 1 ≤ (n : Int) + 1 := by omega
  have hz1' : ¬ ((i : Int) = (n : Int)) := by omega
  have hz3 : (c : Int) < (n : Int) + 1 := by omega
  have hGi : ¬ (G = i) := by omega
  have hGim : ¬ (G = i + 1) := by omega
  have hci : ¬ (c = i) := by omega
  have hin : i ≤ n := by omega
  have hb3 : (i : Int) ≤ (n : Int) := by omega
  clear hcpA hcpB hW1N hW1k hW2N hW2k hL1 hT hLn hL1n hdl hA2 hRt hRl hROW hG hik hkk hold hcont hc hv a4 h h1x
  go_enter Try.func21, Try.ntmps21
  go_wp2_with (first
    | (at_builtin; refine Lib.wpList_append_run _ rfl _ _ _ _ rfl _ _ rfl rfl _ _ (hrz _) ?_)
    | simp only [KA])
  go_region_law_o (refine step_copy_runI rfl _ _ 24 24 rfl _ _ (by simp [Act.eval, Act.put]) (by simp [Act.eval, Act.put]) (KB _ _ _) ?_)
  go_wp2
  go_ret
  exact ⟨_, _, rfl, HF.out _ (by simp [World.setRow]) HW2N.out HW2k.out rfl rfl rfl⟩
/-- slices.Insert of one row without cells, wherever it comes -/
theorem insertRow (g c n i vb : Nat) (xs : List Value) (B : Nat) (w : World) (h : w.ownsRow B 37 2 (.slice (some ⟨g, 0, none⟩) n c) n xs) (h1x : ∀ u ∈ xs, u.oneCell' = true) (hi : i ≤ n) (hn8 : n ≤ 8) (hB : B ≤ w.heap.size) (hvg : vb ≠ g) (hv : w.heap[vb]? = some (.cells #[.slice none 0 0, .bool false] 37)) :
    Calls Try.prog 21 #[.slice (some ⟨g, 0, none⟩) n c, .int .i64 i, .slice (some ⟨vb, 0, none⟩) 1 1] w fun e w' => ∃ a9 c9, e = .returned (.slice a9 (n + 1) c9) ∧ w'.ownsRow B 37 2 (.slice a9 (n + 1) c9) (n + 1) (xs.take (i * 2) ++ [.slice none 0 0, .bool false] ++ xs.drop (i * 2)) ∧ w.grownBy w' (some g) := by
  have hxl : xs.length = n * 2 := h.1
  rcases Nat.lt_or_eq_of_le hi with hi | rfl
  · rcases Nat.lt_or_ge c (n + 1) with hc | hc
    · exact insertRow_grow g c n i vb xs B w h h1x hi hn8 hc hB hv
    · exact (insertRow_room g c n i vb xs B w h h1x hi hc hvg hv).mono (fun e w' ⟨h1, h2, h3⟩ => ⟨_, _, h1, h2, h3⟩)
  · have e1 : xs.take (i * 2) = xs := List.take_of_length_le (by omega)
    have e2 : xs.drop (i * 2) = [] := List.drop_eq_nil_of_le (by omega)
    rw [e1, e2, List.append_nil]
    exact insertRow_end g c i vb xs B w h hn8 hB hv
end Go.Proofs.Ytggmjiddadjilak
namespace Go.Proofs.Ytggmjiddadjilak
open Go.RowKit

set_option maxRecDepth 100000 in
set_option maxHeartbeats 2000000 in
theorem closRow (xb ab g i n c2 B : Nat) (a1 : Option Addr) (cl c1 : Nat) (hd ft gp : Value) (xs : List Value) (w : World)
    (hx : w.heap[xb]? = some (.cells #[.slice a1 cl c1, hd, ft, .slice (some ⟨g, 0, none⟩) n c2, gp] 26)) (hab : w.heap[ab]? = some (.cells #[.int .i64 (i : Int)] 3))
    (h : w.ownsRow B 37 2 (.slice (some ⟨g, 0, none⟩) n c2) n xs) (h1x : ∀ u ∈ xs, u.oneCell' = true) (hi : i ≤ n) (hn8 : n ≤ 8) (hB : B ≤ w.heap.size) :
    Calls Try.prog 20 #[.pointer (some ⟨xb, 0, none⟩), .pointer (some ⟨ab, 0, none⟩)] w fun e w' => e = .returned (.tuple #[]) ∧ ∃ a9 c9 W9, w.grownBy W9 (some g) ∧ W9.ownsRow B 37 2 (.slice a9 (n + 1) c9) (n + 1) (xs.take (i * 2) ++ [.slice none 0 0, .bool false] ++ xs.drop (i * 2)) ∧ w' = W9.setCell ⟨xb, 3, none⟩ (.slice a9 (n + 1) c9) := by
  have hgl : g < w.heap.size := (row_lt h (b := g) rfl).2
  have hxg : xb ≠ g := fun e => by
    subst e
    rcases h.2 with ⟨e, _⟩ | ⟨g', cap', cur, e, hg, hc, _⟩
    · simp at e
    · simp only [Value.slice.injEq, Option.some.injEq, Addr.mk.injEq, and_true] at e
      obtain ⟨rfl, _, _⟩ := e
      rw [hx] at hc
      simp at hc
  have HK := Hid.intro (insertRow g c2 n i w.heap.size xs B (w.alloc (.cells #[.slice none 0 0, .bool false] 37)) (row_kept9 h (k_alloc (Below.refl _ _) _)) h1x hi hn8 (by simp; omega) (by omega) (newestB _ _))
  have HG := Hid.intro (grown_below (k_alloc (Below.refl w.heap.size w) (.cells #[.slice none 0 0, .bool false] 37)) (r := some g))
  have HX := Hid.intro (alloc_at (o := (.cells #[.slice none 0 0, .bool false] 37)) hx)
  have hxl : xb < w.heap.size := (Array.getElem?_eq_some_iff.1 hx).1
  obtain ⟨x0, x1, x2, x3, x4⟩ := fiveO hx
  have y0 := cellB (p := 0) hab
  clear hx hab h
  go_enter Try.func20, Try.ntmps20
  go_wp2_with (refine HK.out.mono ?_; rintro e w2 ⟨a9, c9, rfl, hO, hg2⟩; have hX2 := (hg2.block xb (by simp; omega) (fun e => hxg (Option.some.inj e))).trans HX.out; obtain ⟨z0, z1, z2, z3, z4⟩ := fiveO hX2; have fz := freeB (p := 3) hX2)
  go_end0
  exact ⟨rfl, a9, c9, w2, grown_trans HG.out hg2, hO, rfl⟩
end Go.Proofs.Ytggmjiddadjilak
namespace Go.Proofs.Ytggmjiddadjilak
open Go.RowKit

set_option maxRecDepth 100000 in
set_option maxHeartbeats 2000000 in
theorem behindRow_no (xb : Nat) (p0 p1 : Value) (a0 a3 : Option Addr) (n0 c0 n3 c3 : Nat) (i1 i2 i4 : Int) (w : World) (hx : w.heap[xb]? = some (.cells #[.slice a0 n0 c0, .int .i64 i1, .int .i64 i2, .slice a3 n3 c3, .int .i64 i4] 26)) :
    Calls Try.prog 19 #[.pointer (some ⟨xb, 0, none⟩), .bool false, .func (.func 20) #[] #[p0, p1]] w fun e w' => e = .returned (.tuple #[.agg #[.slice a0 n0 c0, .int .i64 i1, .int .i64 i2, .slice a3 n3 c3, .int .i64 i4], .bool false]) ∧ Below w.heap.size w w' := by
  have hX := (Below.heap_alloc w (.cells #[.slice none 0 0, .int .i64 0, .int .i64 0, .slice none 0 0, .int .i64 0] 26) xb (Array.getElem?_eq_some_iff.1 hx).1).trans hx
  have hZ := newestB w (.cells #[.slice none 0 0, .int .i64 0, .int .i64 0, .slice none 0 0, .int .i64 0] 26)
  have HK := Hid.intro (k_alloc (Below.refl w.heap.size w) (.cells #[.slice none 0 0, .int .i64 0, .int .i64 0, .slice none 0 0, .int .i64 0] 26))
  have HX := Hid.intro hX
  have HZ := Hid.intro hZ
  clear hx hX hZ
  go_enter Try.func19, Try.ntmps19
  go_upto_region 1 with fail
  generalize w.alloc (.cells #[.slice none 0 0, .int .i64 0, .int .i64 0, .slice none 0 0, .int .i64 0] 26) = W0 at HK HX HZ ⊢
  obtain ⟨z0, z1, z2, z3, z4⟩ := fiveO HX.out
  obtain ⟨d0, d1, d2, d3, d4⟩ := fiveO HZ.out
  have fz : ∀ p, W0.frozen? ⟨w.heap.size, p, none⟩ = false := fun p => freeB HZ.out
  go_wp2
  exact bodyPost_ret (v := .tuple #[.agg #[.slice a0 n0 c0, .int .i64 i1, .int .i64 i2, .slice a3 n3 c3, .int .i64 i4], .bool false]) (by simp [results, Try.results19, go_sem, d0, d1, d2, d3, d4]) rfl ⟨rfl, k_set (k_set (k_set (k_set (k_set HK.out (Nat.le_refl _) _) (Nat.le_refl _) _) (Nat.le_refl _) _) (Nat.le_refl _) _) (Nat.le_refl _) _⟩
set_option maxRecDepth 100000 in
set_option maxHeartbeats 2000000 in
theorem behindRow_yes (xb : Nat) (p0 p1 : Value) (a0 : Option Addr) (n0 c0 : Nat) (i1 i2 i4 : Int) (w : World) (P : Option Addr → Nat → Nat → World → Prop) (hP : ∀ a3 n3 c3 W W', P a3 n3 c3 W → (∀ k, k ≠ w.heap.size → W'.heap[k]? = W.heap[k]?) → W'.heap.size = W.heap.size → W'.os = W.os → W'.tape = W.tape → W'.output = W.output → P a3 n3 c3 W')
    (hcl : Calls Try.prog 20 #[p0, p1] (w.alloc (.cells #[.slice none 0 0, .int .i64 0, .int .i64 0, .slice none 0 0, .int .i64 0] 26)) fun e w' => e = .returned (.tuple #[]) ∧ ∃ a3 n3 c3, P a3 n3 c3 w' ∧ w'.heap[xb]? = some (.cells #[.slice a0 n0 c0, .int .i64 i1, .int .i64 i2, .slice a3 n3 c3, .int .i64 i4] 26) ∧ w'.heap[w.heap.size]? = some (.cells #[.slice none 0 0, .int .i64 0, .int .i64 0, .slice none 0 0, .int .i64 0] 26)) :
    Calls Try.prog 19 #[.pointer (some ⟨xb, 0, none⟩), .bool true, .func (.func 20) #[] #[p0, p1]] w fun e w' => ∃ a3 n3 c3, e = .returned (.tuple #[.agg #[.slice a0 n0 c0, .int .i64 i1, .int .i64 i2, .slice a3 n3 c3, .int .i64 i4], .bool true]) ∧ P a3 n3 c3 w' := by
  have HC := Hid.intro hcl
  have HP := Hid.intro hP
  clear hcl hP
  go_enter Try.func19, Try.ntmps19
  go_upto_region 1 with fail
  generalize w.alloc (.cells #[.slice none 0 0, .int .i64 0, .int .i64 0, .slice none 0 0, .int .i64 0] 26) = W0 at HC ⊢
  go_wp2_with (go_at_call 20; refine HC.out.mono ?_; rintro e w1 ⟨rfl, a3, n3, c3, hP1, hX1, hZ1⟩; have HP1 := Hid.intro hP1; have HX1 := Hid.intro hX1; have HZ1 := Hid.intro hZ1; obtain ⟨z0, z1, z2, z3, z4⟩ := fiveO hX1; obtain ⟨d0, d1, d2, d3, d4⟩ := fiveO hZ1; have fz : ∀ p, w1.frozen? ⟨w.heap.size, p, none⟩ = false := fun p => freeB hZ1; clear hP1 hX1 hZ1)
  exact bodyPost_ret (v := .tuple #[.agg #[.slice a0 n0 c0, .int .i64 i1, .int .i64 i2, .slice a3 n3 c3, .int .i64 i4], .bool true]) (by simp [results, Try.results19, go_sem, d0, d1, d2, d3, d4]) rfl ⟨a3, n3, c3, rfl, HP.out _ _ _ _ _ HP1.out (fun k hk => by iterate 5 rw [Below.heap_setCell _ _ _ _ (by dsimp only; exact hk)]) (by iterate 5 rw [sizeSet]) rfl rfl rfl⟩
end Go.Proofs.Ytggmjiddadjilak
