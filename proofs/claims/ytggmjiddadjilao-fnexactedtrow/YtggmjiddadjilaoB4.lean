/-
  PROVED HERE: what it is that a call owns the cells, the columns and the rows of a table: it stays where other blocks are turned; such a table lies in memory. Also: an owned table in memory, as lists; how it stays.
-/
import Derived.Test.YtggmjiddadjilaoB3
namespace Go.Proofs.Ytggmjiddadjilao
open Go.RowKit

/-- a cell's eleven cells -/
def cellVs (x : C) : List Value := [.string x.s, .int .i64 x.c, .int .i64 x.r, .int .i64 x.a1, .int .i64 x.b1, .int .i64 x.a2, .int .i64 x.b2, .int .i64 x.a3, .int .i64 x.b3, .int .i64 x.a4, .int .i64 x.b4]
def colVs (p : Int × Int) : List Value := [.int .i64 p.1, .int .i64 p.2]
def rowVs (p : Value × R) : List Value := [p.1, .bool p.2.whole]
def OwnC (w : World) (base : Nat) (u : Value) (cs : List C) : Prop := w.ownsRow base 62 11 u cs.length (cs.flatMap cellVs)
def OwnCol (w : World) (base : Nat) (v : Value) (ps : List (Int × Int)) : Prop := w.ownsRow base 120 2 v ps.length (ps.flatMap colVs)
/-- rows, each with its slice of cells -/
structure OwnR (w : World) (base : Nat) (v : Value) (ur : List (Value × R)) : Prop where
  own : w.ownsRow base 88 2 v ur.length (ur.flatMap rowVs)
  cells : ∀ p ∈ ur, OwnC w base p.1 p.2.cells
  apart : ur.Pairwise fun p q => p.1.ownBlock = none ∨ p.1.ownBlock ≠ q.1.ownBlock

/-- what stays: all blocks from n on but these two -/
structure Off (n : Nat) (b1 b2 : Option Nat) (w w' : World) : Prop where
  size : w.heap.size ≤ w'.heap.size
  block : ∀ k, n ≤ k → k < w.heap.size → some k ≠ b1 → some k ≠ b2 → w'.heap[k]? = w.heap[k]?
theorem Off.bk {n r : Nat} {b1 b2 : Option Nat} {w w' : World} (h : Bk r w w') (hr : r < n) : Off n b1 b2 w w' := ⟨h.size, fun k hk hl _ _ => h.block k hl (by omega)⟩
theorem Off.grown {n : Nat} {b1 b2 : Option Nat} {w w' : World} (h : w.grownBy w' b2) : Off n b1 b2 w w' := ⟨h.size, fun k _ hl _ h2 => h.block k hl h2⟩
theorem Off.set {n g : Nat} {b2 : Option Nat} (w : World) (p : Addr) (hp : p.block = g) (v : Value) : Off n (some g) b2 w (w.setCell p v) := ⟨by simp [World.setCell], fun k _ _ h1 _ => Below.heap_setCell _ _ _ _ (fun e => h1 (by rw [e, hp]))⟩

theorem row_off {w w' : World} {base n : Nat} {e : TypeId} {sz : Nat} {v : Value} {m : Nat} {xs : List Value} {b1 b2 : Option Nat} (h : w.ownsRow base e sz v m xs) (k : Off n b1 b2 w w') (hn : n ≤ base) (h1 : v.ownBlock = none ∨ v.ownBlock ≠ b1) (h2 : v.ownBlock = none ∨ v.ownBlock ≠ b2) : w'.ownsRow base e sz v m xs :=
  ⟨h.1, h.2.elim Or.inl (fun ⟨g, cap, cur, hv, hg, hc, q⟩ => Or.inr ⟨g, cap, cur, hv, hg, (k.block g (by omega) (Array.getElem?_eq_some_iff.1 hc).1
    (fun e => by subst hv; rcases h1 with h1 | h1 <;> simp [Value.ownBlock] at h1; exact h1 e)
    (fun e => by subst hv; rcases h2 with h2 | h2 <;> simp [Value.ownBlock] at h2; exact h2 e)).trans hc, q⟩)⟩
/-- a block's kind tells blocks apart -/
theorem row_ne {w : World} {base base' : Nat} {e e' : TypeId} {sz sz' : Nat} {v v' : Value} {m m' : Nat} {xs xs' : List Value} (h : w.ownsRow base e sz v m xs) (h' : w.ownsRow base' e' sz' v' m' xs') (he : e ≠ e') : v.ownBlock = none ∨ v.ownBlock ≠ v'.ownBlock := by
  rcases h.2 with ⟨rfl, _⟩ | ⟨g, cap, cur, rfl, _, hc, _⟩
  · exact .inl rfl
  · refine .inr (fun e1 => ?_)
    rcases h'.2 with ⟨rfl, _⟩ | ⟨g', cap', cur', rfl, _, hc', _⟩
    · simp [Value.ownBlock] at e1
    · simp [Value.ownBlock] at e1
      subst e1
      rw [hc] at hc'
      simp at hc'
      exact he hc'.2
theorem row_ne_block {w : World} {base : Nat} {e e' : TypeId} {sz : Nat} {v : Value} {m : Nat} {xs : List Value} {g : Nat} {cur : Array Value} (h : w.ownsRow base e sz v m xs) (h' : w.heap[g]? = some (.cells cur e')) (he : e ≠ e') : v.ownBlock = none ∨ v.ownBlock ≠ some g := by
  rcases h.2 with ⟨rfl, _⟩ | ⟨g', cap, cur', rfl, _, hc, _⟩
  · exact .inl rfl
  · refine .inr (fun e1 => ?_)
    simp [Value.ownBlock] at e1
    subst e1
    rw [hc] at h'
    simp at h'
    exact he h'.2
theorem row_lt {w : World} {base : Nat} {e : TypeId} {sz : Nat} {v : Value} {m : Nat} {xs : List Value} (h : w.ownsRow base e sz v m xs) {b : Nat} (hb : v.ownBlock = some b) : base ≤ b ∧ b < w.heap.size := by
  rcases h.2 with ⟨rfl, _⟩ | ⟨g, cap, cur, rfl, hg, hc, _⟩
  · simp [Value.ownBlock] at hb
  · simp [Value.ownBlock] at hb
    subst hb
    exact ⟨hg, (Array.getElem?_eq_some_iff.1 hc).1⟩
theorem row_base {w : World} {base base' : Nat} {e : TypeId} {sz : Nat} {v : Value} {m : Nat} {xs : List Value} (h : w.ownsRow base e sz v m xs) (hb : base' ≤ base) : w.ownsRow base' e sz v m xs :=
  ⟨h.1, h.2.elim Or.inl (fun ⟨g, cap, cur, hv, hg, q⟩ => Or.inr ⟨g, cap, cur, hv, by omega, q⟩)⟩
theorem OwnR.off {w w' : World} {base n : Nat} {v : Value} {ur : List (Value × R)} {b1 b2 : Option Nat} (h : OwnR w base v ur) (k : Off n b1 b2 w w') (hn : n ≤ base) (h1 : v.ownBlock = none ∨ v.ownBlock ≠ b1) (h2 : v.ownBlock = none ∨ v.ownBlock ≠ b2)
    (hc : ∀ p ∈ ur, (p.1.ownBlock = none ∨ p.1.ownBlock ≠ b1) ∧ (p.1.ownBlock = none ∨ p.1.ownBlock ≠ b2)) : OwnR w' base v ur :=
  ⟨row_off h.own k hn h1 h2, fun p hp => row_off (h.cells p hp) k hn (hc p hp).1 (hc p hp).2, h.apart⟩
/-- what is not among two blocks -/
def OffV (v : Value) (b1 b2 : Option Nat) : Prop := (v.ownBlock = none ∨ v.ownBlock ≠ b1) ∧ (v.ownBlock = none ∨ v.ownBlock ≠ b2)

theorem getD_get {α : Type} {l : List α} {i : Nat} (d : α) (h : i < l.length) : l.getD i d = l[i] := by simp [List.getD, h]
theorem OwnC.at {w : World} {base : Nat} {u : Value} {cs : List C} (h : OwnC w base u cs) (hs : ∀ x ∈ cs, x.s.size ≤ 61) : CellsAt w base u cs := by
  rcases h.2 with ⟨rfl, hn⟩ | ⟨g, cap, cur, rfl, hg, hc, h1, h2, _⟩
  · exact ⟨none, 0, by rw [hn], by omega, by unfold maxLen; omega, fun i hi => by omega⟩
  · refine ⟨_, cap, rfl, h1, h2, fun i hi => ⟨g, 0, rfl, (Array.getElem?_eq_some_iff.1 hc).1, hg, ?_, ?_⟩⟩
    · have hx : ∀ j, j < 11 → w.cell? ⟨g, i * 11 + j, none⟩ = (cellVs cs[i])[j]? := fun j hj => by
        have e := flat_get cellVs 11 (fun _ => rfl) cs i hi j hj
        rw [row_cell h (u := (cellVs cs[i])[j]'(by show j < 11; exact hj)) (by rw [e]; simp)]
        simp
      rw [getD_get dC hi, Nat.zero_add]
      exact ⟨hx 0 (by omega), hx 1 (by omega), hx 2 (by omega), hx 3 (by omega), hx 4 (by omega), hx 5 (by omega), hx 6 (by omega), hx 7 (by omega), hx 8 (by omega), hx 9 (by omega), hx 10 (by omega)⟩
    · rw [getD_get dC hi]
      have := hs _ (List.getElem_mem hi)
      unfold maxLen
      omega
theorem OwnCol.at {w : World} {base : Nat} {u : Value} {ps : List (Int × Int)} (h : OwnCol w base u ps) : ColsAt w base u ps := by
  rcases h.2 with ⟨rfl, hn⟩ | ⟨g, cap, cur, rfl, hg, hc, h1, h2, _⟩
  · exact ⟨none, 0, by rw [hn], by omega, by unfold maxLen; omega, fun i hi => by omega⟩
  · refine ⟨_, cap, rfl, h1, h2, fun i hi => ⟨g, 0, rfl, (Array.getElem?_eq_some_iff.1 hc).1, hg, ?_⟩⟩
    have hx : ∀ j, j < 2 → w.cell? ⟨g, i * 2 + j, none⟩ = (colVs ps[i])[j]? := fun j hj => by
      have e := flat_get colVs 2 (fun _ => rfl) ps i hi j hj
      rw [row_cell h (u := (colVs ps[i])[j]'(by show j < 2; exact hj)) (by rw [e]; simp)]
      simp
    dsimp only
    rw [getD_get (0, 0) hi, Nat.zero_add]
    exact ⟨hx 0 (by omega), hx 1 (by omega)⟩
theorem OwnR.at {w : World} {base : Nat} {v : Value} {ur : List (Value × R)} (h : OwnR w base v ur) (hs : ∀ p ∈ ur, ∀ x ∈ p.2.cells, x.s.size ≤ 61) : RowsAt w base v (ur.map (·.2)) := by
  have hl : (ur.map (·.2)).length = ur.length := by simp
  rcases h.own.2 with ⟨rfl, hn⟩ | ⟨g, cap, cur, rfl, hg, hc, h1, h2, _⟩
  · exact ⟨none, 0, by rw [hl, hn], by rw [hl]; omega, by unfold maxLen; omega, fun i hi => by rw [hl] at hi; omega⟩
  · refine ⟨_, cap, by rw [hl], by rw [hl]; exact h1, h2, fun i hi => ⟨g, 0, rfl, (Array.getElem?_eq_some_iff.1 hc).1, hg, ?_⟩⟩
    rw [hl] at hi
    have hx : ∀ j, j < 2 → w.cell? ⟨g, i * 2 + j, none⟩ = (rowVs ur[i])[j]? := fun j hj => by
      have e := flat_get rowVs 2 (fun _ => rfl) ur i hi j hj
      rw [row_cell h.own (u := (rowVs ur[i])[j]'(by show j < 2; exact hj)) (by rw [e]; simp)]
      simp
    have hm := List.getElem_mem hi
    dsimp only
    rw [getD_get dR (by rw [hl]; exact hi), Nat.zero_add, List.getElem_map]
    exact ⟨ur[i].1, hx 0 (by omega), hx 1 (by omega), (h.cells _ hm).at (hs _ hm)⟩
end Go.Proofs.Ytggmjiddadjilao
namespace Go.Proofs.Ytggmjiddadjilao
open Go.RowKit

theorem row_since {w w' : World} {base : Nat} {e : TypeId} {sz : Nat} {v : Value} {m : Nat} {xs : List Value} (h : w.ownsRow base e sz v m xs) (k : Since base w w') : w'.ownsRow base e sz v m xs :=
  ⟨h.1, h.2.elim Or.inl (fun ⟨g, cap, cur, hv, hg, hc, q⟩ => Or.inr ⟨g, cap, cur, hv, hg, (k.block g hg (Array.getElem?_eq_some_iff.1 hc).1).trans hc, q⟩)⟩
theorem OwnR.since {w w' : World} {base : Nat} {v : Value} {ur : List (Value × R)} (h : OwnR w base v ur) (k : Since base w w') : OwnR w' base v ur := ⟨row_since h.own k, fun p hp => row_since (h.cells p hp) k, h.apart⟩
theorem OwnR.base {w : World} {base base' : Nat} {v : Value} {ur : List (Value × R)} (h : OwnR w base v ur) (hb : base' ≤ base) : OwnR w base' v ur := ⟨row_base h.own hb, fun p hp => row_base (h.cells p hp) hb, h.apart⟩
/-- a table in memory of one's own -/
def OwnT (w : World) (base : Nat) (vc vr : Value) (t : T) : Prop := ∃ ur : List (Value × R), ur.map (·.2) = t.rows ∧ OwnCol w base vc t.cols ∧ OwnR w base vr ur
theorem OwnT.since {w w' : World} {base : Nat} {vc vr : Value} {t : T} (h : OwnT w base vc vr t) (k : Since base w w') : OwnT w' base vc vr t := by
  obtain ⟨ur, e, a, b⟩ := h
  exact ⟨ur, e, row_since a k, b.since k⟩
theorem OwnT.base {w : World} {base base' : Nat} {vc vr : Value} {t : T} (h : OwnT w base vc vr t) (hb : base' ≤ base) : OwnT w base' vc vr t := by
  obtain ⟨ur, e, a, b⟩ := h
  exact ⟨ur, e, row_base a hb, b.base hb⟩
theorem flat_arr {α : Type} (f : α → List Value) (sz : Nat) (hf : ∀ x, (f x).length = sz) (l : List α) (arr : Array Value) (hs : arr.size = l.length * sz) (h : ∀ i, (hi : i < l.length) → ∀ j, j < sz → arr[i * sz + j]? = (f l[i])[j]?) : arr.toList.take (l.length * sz) = l.flatMap f := by
  rw [List.take_of_length_le (by rw [Array.length_toList, hs]; exact Nat.le_refl _)]
  apply List.ext_getElem?
  intro k
  by_cases hk : k < l.length * sz
  · have hz : 0 < sz := by
      rcases Nat.eq_zero_or_pos sz with h0 | h0
      · rw [h0] at hk; omega
      · exact h0
    have h1 : k / sz < l.length := (Nat.div_lt_iff_lt_mul hz).2 hk
    have h2 : k % sz < sz := Nat.mod_lt _ hz
    have e : k = k / sz * sz + k % sz := by rw [Nat.mul_comm]; exact (Nat.div_add_mod k sz).symm
    have a := h (k / sz) h1 (k % sz) h2
    have b := flat_get f sz hf l (k / sz) h1 (k % sz) h2
    rw [← e] at a b
    rw [Array.getElem?_toList, a, b]
  · rw [List.getElem?_eq_none (by rw [Array.length_toList, hs]; omega), List.getElem?_eq_none (by rw [flat_len f sz hf]; omega)]
theorem own_arr {arr : Array Value} {cs : List C} (hs : arr.size = cs.length * 11) (h : ∀ i, i < cs.length → CellArr arr (i * 11) (cs.getD i dC)) : arr.toList.take (cs.length * 11) = cs.flatMap cellVs := by
  refine flat_arr cellVs 11 (fun _ => rfl) cs arr hs (fun i hi j hj => ?_)
  have e := h i hi
  rw [getD_get dC hi] at e
  obtain ⟨h0, h1, h2, h3, h4, h5, h6, h7, h8, h9, h10⟩ := e
  match j, hj with
  | 0, _ => exact h0
  | 1, _ => exact h1
  | 2, _ => exact h2
  | 3, _ => exact h3
  | 4, _ => exact h4
  | 5, _ => exact h5
  | 6, _ => exact h6
  | 7, _ => exact h7
  | 8, _ => exact h8
  | 9, _ => exact h9
  | 10, _ => exact h10
theorem own_cols {arr : Array Value} {ps : List (Int × Int)} (hs : arr.size = ps.length * 2) (h : ColArr arr ps ps.length) : arr.toList.take (ps.length * 2) = ps.flatMap colVs := by
  refine flat_arr colVs 2 (fun _ => rfl) ps arr hs (fun i hi j hj => ?_)
  have e := h i hi
  rw [getD_get (0, 0) hi] at e
  match j, hj with
  | 0, _ => exact e.1
  | 1, _ => exact e.2
/-- rows in an array, the first k of them, each with cells of its own -/
def ArrO (w : World) (z : Nat) (arr : Array Value) (rs : List R) (k : Nat) : Prop :=
  ∃ us : List Value, us.length = k ∧ (∀ i, (hi : i < us.length) → arr[i * 2]? = some us[i] ∧ arr[i * 2 + 1]? = some (.bool (rs.getD i dR).whole) ∧ OwnC w z us[i] (rs.getD i dR).cells) ∧ us.Pairwise fun p q => p.ownBlock = none ∨ p.ownBlock ≠ q.ownBlock
theorem ArrO.zero (w : World) (z : Nat) (arr : Array Value) (rs : List R) : ArrO w z arr rs 0 := ⟨[], rfl, fun _ hi => absurd hi (Nat.not_lt_zero _), .nil⟩
theorem ArrO.next {w w' : World} {z : Nat} {arr : Array Value} {rs : List R} {k : Nat} (h : ArrO w z arr rs k) (hs : arr.size = rs.length * 2) (hk : k < rs.length) (hz : z ≤ w.heap.size) (hw : Since z w w') {u : Value} (hu : OwnC w' w.heap.size u (rs.getD k dR).cells) :
    ArrO w' z ((arr.setIfInBounds (k * 2) u).setIfInBounds (k * 2 + 1) (.bool (rs.getD k dR).whole)) rs (k + 1) := by
  obtain ⟨h1, h2, h3⟩ := two_next hs hk u (.bool (rs.getD k dR).whole)
  obtain ⟨us, hl, hg, hp⟩ := h
  refine ⟨us ++ [u], by simp [hl], fun i hi => ?_, ?_⟩
  · rw [List.length_append, List.length_singleton, hl] at hi
    rcases Nat.lt_or_eq_of_le (Nat.lt_succ_iff.1 hi) with hlt | rfl
    · obtain ⟨e1, e2, e3⟩ := hg i (by omega)
      rw [List.getElem_append_left (by omega)]
      exact ⟨(h1 _ (by omega)).trans e1, (h1 _ (by omega)).trans e2, row_since e3 hw⟩
    · have e : (us ++ [u])[i]'(by simp [hl]) = u := by
        rw [List.getElem_append_right (by omega)]
        simp
      rw [e]
      exact ⟨h2, h3, row_base hu hz⟩
  · rw [List.pairwise_append]
    refine ⟨hp, List.pairwise_singleton _ _, fun p hpm q hq => ?_⟩
    rw [List.mem_singleton] at hq
    subst hq
    obtain ⟨i, hi, rfl⟩ := List.mem_iff_getElem.1 hpm
    obtain ⟨_, _, e3⟩ := hg i hi
    cases hb : us[i].ownBlock with
    | none => exact .inl rfl
    | some b =>
      refine .inr (fun he => ?_)
      have l1 := row_lt e3 hb
      have l2 := row_lt hu he.symm
      omega
theorem ArrO.all {w : World} {z : Nat} {arr : Array Value} {rs : List R} (h : ArrO w (z + 1) arr rs rs.length) (hs : arr.size = rs.length * 2) (hg : w.heap[z]? = some (.cells arr 88)) (hm : rs.length ≤ maxLen) :
    ∃ ur : List (Value × R), ur.map (·.2) = rs ∧ OwnR w z (.slice (some ⟨z, 0, none⟩) rs.length rs.length) ur := by
  obtain ⟨us, hl, hgt, hp⟩ := h
  have hzl : (us.zip rs).length = rs.length := by rw [List.length_zip, hl, Nat.min_self]
  refine ⟨us.zip rs, List.map_snd_zip (by omega), ⟨?_, fun p hpm => ?_, ?_⟩⟩
  · refine ⟨flat_len rowVs 2 (fun _ => rfl) _, .inr ⟨z, rs.length, arr, by rw [hzl], Nat.le_refl _, hg, by rw [hzl]; exact Nat.le_refl _, hm, hs, ?_⟩⟩
    refine flat_arr rowVs 2 (fun _ => rfl) (us.zip rs) arr (by rw [hs, hzl]) (fun i hi j hj => ?_)
    rw [hzl] at hi
    obtain ⟨e1, e2, _⟩ := hgt i (by omega)
    rw [getD_get dR hi] at e2
    rw [List.getElem_zip]
    match j, hj with
    | 0, _ => exact e1
    | 1, _ => exact e2
  · obtain ⟨i, hi, rfl⟩ := List.mem_iff_getElem.1 hpm
    rw [hzl] at hi
    obtain ⟨_, _, e3⟩ := hgt i (by omega)
    rw [getD_get dR hi] at e3
    rw [List.getElem_zip]
    exact row_base e3 (Nat.le_succ _)
  · rw [List.pairwise_iff_getElem] at hp ⊢
    intro i j hi hj hij
    rw [List.getElem_zip, List.getElem_zip]
    exact hp i j (by omega) (by omega) hij
end Go.Proofs.Ytggmjiddadjilao
