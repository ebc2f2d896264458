/-
  PROVED HERE: how many cells rows have together. Also: cells and columns in an array, as lists. Also: an owned table in memory, as lists; how it stays. Also: what slices.Clone answers of columns, rows and cells: the same ones, in memory of the call's own; nothing that was in memory is turned. Also: what is as it was but the blocks from one number on up to another one. Also: cells that are marked, as lists; a list in memory that grows.
-/
import Derived.Test.YtggmjiddadjilalB4
import Derived.Test.YtggmjiddadjilalB1
import Derived.Test.YtggmjiddadjilalB6
import Derived.WalkLawsBesides
import Derived.WalkSpells
import Derived.Laws.MakeOwn
import Derived.OwnWalk
import Derived.Lib.SmallJoins
import Derived.Deep.RegionWith
import Derived.Deep.QuietTactic
import Derived.BigQuiet
import Derived.Deep.Cut
import Derived.Laws.AppendOwn
import Derived.Lib.SliceRun
import Derived.Lib.Walk
import Derived.WalkKit
import Derived.Deep.LoopGhost
namespace Go.Proofs.Ytggmjiddadjilal
open Go.RowKit

def cnTo (rs : List R) (k : Nat) : Nat := ((rs.take k).map (fun x => x.cells.length)).sum
theorem cnTo_succ {rs : List R} {k : Nat} (h : k < rs.length) : cnTo rs (k + 1) = cnTo rs k + (rs.getD k dR).cells.length := by
  have e : rs.getD k dR = rs[k] := by simp [List.getD, h]
  rw [e]
  exact sum_take_succ (fun x : R => x.cells.length) rs k h
theorem cnTo_le (rs : List R) (k : Nat) : cnTo rs k ≤ totR rs := by
  have h1 := sum_take_le (fun x : R => x.cells.length) rs k
  have h2 : (rs.map (fun x : R => x.cells.length)).sum ≤ totR rs := by
    clear h1
    induction rs with
    | nil => simp [totR]
    | cons x r ih => have := totC_eq x.cells; simp [totR]; omega
  exact Nat.le_trans h1 h2
end Go.Proofs.Ytggmjiddadjilal
namespace Go.Proofs.Ytggmjiddadjilal
open Go.RowKit

/-- the eleven cells of a cell in an array -/
def CellArr (arr : Array Value) (o : Nat) (x : C) : Prop :=
  arr[o]? = some (.string x.s) ∧ arr[o + 1]? = some (.int .i64 x.c) ∧ arr[o + 2]? = some (.int .i64 x.r) ∧ arr[o + 3]? = some (.int .i64 x.a1) ∧ arr[o + 4]? = some (.int .i64 x.b1) ∧ arr[o + 5]? = some (.int .i64 x.a2) ∧
  arr[o + 6]? = some (.int .i64 x.b2) ∧ arr[o + 7]? = some (.int .i64 x.a3) ∧ arr[o + 8]? = some (.int .i64 x.b3) ∧ arr[o + 9]? = some (.int .i64 x.a4) ∧ arr[o + 10]? = some (.int .i64 x.b4)
def put11 (arr : Array Value) (o : Nat) (x : C) : Array Value :=
  ((((((((((arr.setIfInBounds o (.string x.s)).setIfInBounds (o + 1) (.int .i64 x.c)).setIfInBounds (o + 2) (.int .i64 x.r)).setIfInBounds (o + 3) (.int .i64 x.a1)).setIfInBounds (o + 4) (.int .i64 x.b1)).setIfInBounds (o + 5) (.int .i64 x.a2)).setIfInBounds (o + 6) (.int .i64 x.b2)).setIfInBounds (o + 7) (.int .i64 x.a3)).setIfInBounds (o + 8) (.int .i64 x.b3)).setIfInBounds (o + 9) (.int .i64 x.a4)).setIfInBounds (o + 10) (.int .i64 x.b4)
theorem put11_size (arr : Array Value) (o : Nat) (x : C) : (put11 arr o x).size = arr.size := by simp [put11]
theorem put11_before (arr : Array Value) (o : Nat) (x : C) (p : Nat) (h : p < o) : (put11 arr o x)[p]? = arr[p]? := by
  unfold put11
  iterate 11 rw [Array.getElem?_setIfInBounds_ne (by omega)]
theorem put11_at (arr : Array Value) (o : Nat) (x : C) (h : o + 10 < arr.size) : CellArr (put11 arr o x) o x := by
  have ne : ∀ (A : Array Value) (i j : Nat) (v : Value), i ≠ j → (A.setIfInBounds i v)[j]? = A[j]? := fun A i j v hij => Array.getElem?_setIfInBounds_ne hij
  have eq : ∀ (A : Array Value) (i : Nat) (v : Value), i < A.size → (A.setIfInBounds i v)[i]? = some v := fun A i v hi => by simp [hi]
  unfold CellArr put11
  refine ⟨?_, ?_, ?_, ?_, ?_, ?_, ?_, ?_, ?_, ?_, ?_⟩
  · iterate 10 rw [ne _ _ _ _ (by omega)]
    exact eq _ _ _ (by first | omega | (simp; omega))
  · iterate 9 rw [ne _ _ _ _ (by omega)]
    exact eq _ _ _ (by first | omega | (simp; omega))
  · iterate 8 rw [ne _ _ _ _ (by omega)]
    exact eq _ _ _ (by first | omega | (simp; omega))
  · iterate 7 rw [ne _ _ _ _ (by omega)]
    exact eq _ _ _ (by first | omega | (simp; omega))
  · iterate 6 rw [ne _ _ _ _ (by omega)]
    exact eq _ _ _ (by first | omega | (simp; omega))
  · iterate 5 rw [ne _ _ _ _ (by omega)]
    exact eq _ _ _ (by first | omega | (simp; omega))
  · iterate 4 rw [ne _ _ _ _ (by omega)]
    exact eq _ _ _ (by first | omega | (simp; omega))
  · iterate 3 rw [ne _ _ _ _ (by omega)]
    exact eq _ _ _ (by first | omega | (simp; omega))
  · iterate 2 rw [ne _ _ _ _ (by omega)]
    exact eq _ _ _ (by first | omega | (simp; omega))
  · iterate 1 rw [ne _ _ _ _ (by omega)]
    exact eq _ _ _ (by first | omega | (simp; omega))
  · exact eq _ _ _ (by first | omega | (simp; omega))
theorem CellArr.of_same {a b : Array Value} {o : Nat} {x : C} (h : CellArr a o x) (e : ∀ p, o ≤ p → p ≤ o + 10 → b[p]? = a[p]?) : CellArr b o x := by
  unfold CellArr at h ⊢
  rw [e o (by omega) (by omega), e (o + 1) (by omega) (by omega), e (o + 2) (by omega) (by omega), e (o + 3) (by omega) (by omega), e (o + 4) (by omega) (by omega), e (o + 5) (by omega) (by omega), e (o + 6) (by omega) (by omega),
    e (o + 7) (by omega) (by omega), e (o + 8) (by omega) (by omega), e (o + 9) (by omega) (by omega), e (o + 10) (by omega) (by omega)]
  exact h
theorem put11_next {arr : Array Value} {cs : List C} {k : Nat} (hs : arr.size = cs.length * 11) (hk : k < cs.length) (h : ∀ i, i < k → CellArr arr (i * 11) (cs.getD i dC)) :
    ∀ i, i < k + 1 → CellArr (put11 arr (k * 11) (cs.getD k dC)) (i * 11) (cs.getD i dC) := by
  intro i hi
  rcases Nat.lt_or_eq_of_le (Nat.lt_succ_iff.1 hi) with h1 | rfl
  · exact (h i h1).of_same (fun p hp1 hp2 => put11_before _ _ _ _ (by omega))
  · exact put11_at _ _ _ (by omega)
theorem CellIs.of_arr {w : World} {g o : Nat} {arr : Array Value} {t : TypeId} {x : C} (h : w.heap[g]? = some (.cells arr t)) (hx : CellArr arr o x) : CellIs w g o x := by
  unfold CellIs
  simp only [cellB h]
  exact hx

/-- the new array of so many cells -/
def newC (n : Nat) : Array Value := madeCells (Value.agg #[.string ⟨#[]⟩, .int .i64 0, .int .i64 0, .int .i64 0, .int .i64 0, .int .i64 0, .int .i64 0, .int .i64 0, .int .i64 0, .int .i64 0, .int .i64 0]).cells (n * 11)
theorem newC_size (n : Nat) : (newC n).size = n * 11 := size_madeCells _ _
theorem infoC : (Try.prog.info? 29).map (fun i => (i.zero, i.size, i.bytes)) = some (some (Value.agg #[.string ⟨#[]⟩, .int .i64 0, .int .i64 0, .int .i64 0, .int .i64 0, .int .i64 0, .int .i64 0, .int .i64 0, .int .i64 0, .int .i64 0, .int .i64 0]), 11, 96) := by kernel_rfl
theorem makeC (n : Nat) (hn : n ≤ 1048576) (u : World) : (Instr.makeSlice 49 (.int .i64 (n : Int)) (.int .i64 (n : Int))).run Try.prog u = .ok (.slice (some ⟨u.heap.size, 0, none⟩) n n) (u.alloc (.cells (newC n) 29)) := by
  obtain ⟨i0, hi, hz0, hz1, hz2⟩ := info_parts infoC
  have h := run_make (P := Try.prog) u 49 29 i0 _ Try.underlying49 hi hz0 .i64 .i64 (n : Int) (n : Int) (by omega) (Int.le_refl _) (by rw [hz2]; omega) (by omega)
  rw [hz1, Int.toNat_natCast] at h
  exact h

def newR (n : Nat) : Array Value := madeCells (Value.agg #[.slice none 0 0, .bool false]).cells (n * 2)
theorem newR_size (n : Nat) : (newR n).size = n * 2 := size_madeCells _ _
theorem infoR : (Try.prog.info? 51).map (fun i => (i.zero, i.size, i.bytes)) = some (some (Value.agg #[.slice none 0 0, .bool false]), 2, 32) := by kernel_rfl
theorem makeR (n : Nat) (hn : n ≤ 1048576) (u : World) : (Instr.makeSlice 35 (.int .i64 (n : Int)) (.int .i64 (n : Int))).run Try.prog u = .ok (.slice (some ⟨u.heap.size, 0, none⟩) n n) (u.alloc (.cells (newR n) 51)) := by
  obtain ⟨i0, hi, hz0, hz1, hz2⟩ := info_parts infoR
  have h := run_make (P := Try.prog) u 35 51 i0 _ Try.underlying35 hi hz0 .i64 .i64 (n : Int) (n : Int) (by omega) (Int.le_refl _) (by rw [hz2]; omega) (by omega)
  rw [hz1, Int.toNat_natCast] at h
  exact h
/-- rows in an array, the first k of them -/
def RowArr (w : World) (z : Nat) (arr : Array Value) (rs : List R) (k : Nat) : Prop :=
  ∀ i, i < k → ∃ u, arr[i * 2]? = some u ∧ arr[i * 2 + 1]? = some (.bool (rs.getD i dR).whole) ∧ CellsAt w z u (rs.getD i dR).cells
theorem RowArr.next {w w' : World} {z : Nat} {arr : Array Value} {rs : List R} {k : Nat} (h : RowArr w z arr rs k) (hs : arr.size = rs.length * 2) (hk : k < rs.length) (hw : Since z w w') {u : Value} (hu : CellsAt w' z u (rs.getD k dR).cells) :
    RowArr w' z ((arr.setIfInBounds (k * 2) u).setIfInBounds (k * 2 + 1) (.bool (rs.getD k dR).whole)) rs (k + 1) := by
  obtain ⟨h1, h2, h3⟩ := two_next hs hk u (.bool (rs.getD k dR).whole)
  intro i hi
  rcases Nat.lt_or_eq_of_le (Nat.lt_succ_iff.1 hi) with hlt | rfl
  · obtain ⟨v, e1, e2, e3⟩ := h i hlt
    exact ⟨v, (h1 _ (by omega)).trans e1, (h1 _ (by omega)).trans e2, e3.since hw⟩
  · exact ⟨u, h2, h3, hu⟩

def newK (n : Nat) : Array Value := madeCells (Value.agg #[.int .i64 0, .int .i64 0]).cells (n * 2)
theorem newK_size (n : Nat) : (newK n).size = n * 2 := size_madeCells _ _
theorem infoK : (Try.prog.info? 76).map (fun i => (i.zero, i.size, i.bytes)) = some (some (Value.agg #[.int .i64 0, .int .i64 0]), 2, 16) := by kernel_rfl
theorem makeK (n : Nat) (hn : n ≤ 1048576) (u : World) : (Instr.makeSlice 34 (.int .i64 (n : Int)) (.int .i64 (n : Int))).run Try.prog u = .ok (.slice (some ⟨u.heap.size, 0, none⟩) n n) (u.alloc (.cells (newK n) 76)) := by
  obtain ⟨i0, hi, hz0, hz1, hz2⟩ := info_parts infoK
  have h := run_make (P := Try.prog) u 34 76 i0 _ Try.underlying34 hi hz0 .i64 .i64 (n : Int) (n : Int) (by omega) (Int.le_refl _) (by rw [hz2]; omega) (by omega)
  rw [hz1, Int.toNat_natCast] at h
  exact h
def ColArr (arr : Array Value) (ps : List (Int × Int)) (k : Nat) : Prop := ∀ i, i < k → arr[i * 2]? = some (.int .i64 (ps.getD i (0, 0)).1) ∧ arr[i * 2 + 1]? = some (.int .i64 (ps.getD i (0, 0)).2)
theorem ColArr.next {arr : Array Value} {ps : List (Int × Int)} {k : Nat} (h : ColArr arr ps k) (hs : arr.size = ps.length * 2) (hk : k < ps.length) :
    ColArr ((arr.setIfInBounds (k * 2) (.int .i64 (ps.getD k (0, 0)).1)).setIfInBounds (k * 2 + 1) (.int .i64 (ps.getD k (0, 0)).2)) ps (k + 1) := by
  obtain ⟨h1, h2, h3⟩ := two_next hs hk (.int .i64 (ps.getD k (0, 0)).1) (.int .i64 (ps.getD k (0, 0)).2)
  intro i hi
  rcases Nat.lt_or_eq_of_le (Nat.lt_succ_iff.1 hi) with hlt | rfl
  · exact ⟨(h1 _ (by omega)).trans (h i hlt).1, (h1 _ (by omega)).trans (h i hlt).2⟩
  · exact ⟨h2, h3⟩
end Go.Proofs.Ytggmjiddadjilal
namespace Go.Proofs.Ytggmjiddadjilal
open Go.RowKit

theorem row_since {w w' : World} {base : Nat} {e : TypeId} {sz : Nat} {v : Value} {m : Nat} {xs : List Value} (h : w.ownsRow base e sz v m xs) (k : Since base w w') : w'.ownsRow base e sz v m xs :=
  ⟨h.1, h.2.elim Or.inl (fun ⟨g, cap, cur, hv, hg, hc, q⟩ => Or.inr ⟨g, cap, cur, hv, hg, (k.block g hg (Array.getElem?_eq_some_iff.1 hc).1).trans hc, q⟩)⟩
theorem OwnR.since {w w' : World} {base : Nat} {v : Value} {ur : List (Value × R)} (h : OwnR w base v ur) (k : Since base w w') : OwnR w' base v ur := ⟨row_since h.own k, fun p hp => row_since (h.cells p hp) k, h.apart⟩
/-- a table in memory of one's own -/
def OwnT (w : World) (base : Nat) (vc vr : Value) (t : T) : Prop := ∃ ur : List (Value × R), ur.map (·.2) = t.rows ∧ OwnCol w base vc t.cols ∧ OwnR w base vr ur
theorem OwnT.since {w w' : World} {base : Nat} {vc vr : Value} {t : T} (h : OwnT w base vc vr t) (k : Since base w w') : OwnT w' base vc vr t := by
  obtain ⟨ur, e, a, b⟩ := h
  exact ⟨ur, e, row_since a k, b.since k⟩
theorem OwnT.base {w : World} {base base' : Nat} {vc vr : Value} {t : T} (h : OwnT w base vc vr t) (hb : base' ≤ base) : OwnT w base' vc vr t := by
  obtain ⟨ur, e, a, b⟩ := h
  exact ⟨ur, e, row_base a hb, b.base hb⟩
theorem flat_arr {α : Type} (f : α → List Value) (sz : Nat) (hf : ∀ x, (f x).length = sz) (l : List α) (arr : Array Value) (hs : arr.size = l.length * sz) (h : ∀ i, (hi : i < l.length) → ∀ j, j < sz → arr[i * sz + j]? = (f l[i])[j]?) : arr.toList.take (l.length * sz) = l.flatMap f := by
  rw [List.take_of_length_le (by rw [Array.length_toList, hs]; exact Nat.le_refl _)]
  apply List.ext_getElem?
  intro k
  by_cases hk : k < l.length * sz
  · have hz : 0 < sz := by
      rcases Nat.eq_zero_or_pos sz with h0 | h0
      · rw [h0] at hk; omega
      · exact h0
    have h1 : k / sz < l.length := (Nat.div_lt_iff_lt_mul hz).2 hk
    have h2 : k % sz < sz := Nat.mod_lt _ hz
    have e : k = k / sz * sz + k % sz := by rw [Nat.mul_comm]; exact (Nat.div_add_mod k sz).symm
    have a := h (k / sz) h1 (k % sz) h2
    have b := flat_get f sz hf l (k / sz) h1 (k % sz) h2
    rw [← e] at a b
    rw [Array.getElem?_toList, a, b]
  · rw [List.getElem?_eq_none (by rw [Array.length_toList, hs]; omega), List.getElem?_eq_none (by rw [flat_len f sz hf]; omega)]
theorem own_arr {arr : Array Value} {cs : List C} (hs : arr.size = cs.length * 11) (h : ∀ i, i < cs.length → CellArr arr (i * 11) (cs.getD i dC)) : arr.toList.take (cs.length * 11) = cs.flatMap cellVs := by
  refine flat_arr cellVs 11 (fun _ => rfl) cs arr hs (fun i hi j hj => ?_)
  have e := h i hi
  rw [getD_get dC hi] at e
  obtain ⟨h0, h1, h2, h3, h4, h5, h6, h7, h8, h9, h10⟩ := e
  match j, hj with
  | 0, _ => exact h0
  | 1, _ => exact h1
  | 2, _ => exact h2
  | 3, _ => exact h3
  | 4, _ => exact h4
  | 5, _ => exact h5
  | 6, _ => exact h6
  | 7, _ => exact h7
  | 8, _ => exact h8
  | 9, _ => exact h9
  | 10, _ => exact h10
theorem own_cols {arr : Array Value} {ps : List (Int × Int)} (hs : arr.size = ps.length * 2) (h : ColArr arr ps ps.length) : arr.toList.take (ps.length * 2) = ps.flatMap colVs := by
  refine flat_arr colVs 2 (fun _ => rfl) ps arr hs (fun i hi j hj => ?_)
  have e := h i hi
  rw [getD_get (0, 0) hi] at e
  match j, hj with
  | 0, _ => exact e.1
  | 1, _ => exact e.2
/-- rows in an array, the first k of them, each with cells of its own -/
def ArrO (w : World) (z : Nat) (arr : Array Value) (rs : List R) (k : Nat) : Prop :=
  ∃ us : List Value, us.length = k ∧ (∀ i, (hi : i < us.length) → arr[i * 2]? = some us[i] ∧ arr[i * 2 + 1]? = some (.bool (rs.getD i dR).whole) ∧ OwnC w z us[i] (rs.getD i dR).cells) ∧ us.Pairwise fun p q => p.ownBlock = none ∨ p.ownBlock ≠ q.ownBlock
theorem ArrO.zero (w : World) (z : Nat) (arr : Array Value) (rs : List R) : ArrO w z arr rs 0 := ⟨[], rfl, fun _ hi => absurd hi (Nat.not_lt_zero _), .nil⟩
theorem ArrO.next {w w' : World} {z : Nat} {arr : Array Value} {rs : List R} {k : Nat} (h : ArrO w z arr rs k) (hs : arr.size = rs.length * 2) (hk : k < rs.length) (hz : z ≤ w.heap.size) (hw : Since z w w') {u : Value} (hu : OwnC w' w.heap.size u (rs.getD k dR).cells) :
    ArrO w' z ((arr.setIfInBounds (k * 2) u).setIfInBounds (k * 2 + 1) (.bool (rs.getD k dR).whole)) rs (k + 1) := by
  obtain ⟨h1, h2, h3⟩ := two_next hs hk u (.bool (rs.getD k dR).whole)
  obtain ⟨us, hl, hg, hp⟩ := h
  refine ⟨us ++ [u], by simp [hl], fun i hi => ?_, ?_⟩
  · rw [List.length_append, List.length_singleton, hl] at hi
    rcases Nat.lt_or_eq_of_le (Nat.lt_succ_iff.1 hi) with hlt | rfl
    · obtain ⟨e1, e2, e3⟩ := hg i (by omega)
      rw [List.getElem_append_left (by omega)]
      exact ⟨(h1 _ (by omega)).trans e1, (h1 _ (by omega)).trans e2, row_since e3 hw⟩
    · have e : (us ++ [u])[i]'(by simp [hl]) = u := by
        rw [List.getElem_append_right (by omega)]
        simp
      rw [e]
      exact ⟨h2, h3, row_base hu hz⟩
  · rw [List.pairwise_append]
    refine ⟨hp, List.pairwise_singleton _ _, fun p hpm q hq => ?_⟩
    rw [List.mem_singleton] at hq
    subst hq
    obtain ⟨i, hi, rfl⟩ := List.mem_iff_getElem.1 hpm
    obtain ⟨_, _, e3⟩ := hg i hi
    cases hb : us[i].ownBlock with
    | none => exact .inl rfl
    | some b =>
      refine .inr (fun he => ?_)
      have l1 := row_lt e3 hb
      have l2 := row_lt hu he.symm
      omega
theorem ArrO.all {w : World} {z : Nat} {arr : Array Value} {rs : List R} (h : ArrO w (z + 1) arr rs rs.length) (hs : arr.size = rs.length * 2) (hg : w.heap[z]? = some (.cells arr 51)) (hm : rs.length ≤ maxLen) :
    ∃ ur : List (Value × R), ur.map (·.2) = rs ∧ OwnR w z (.slice (some ⟨z, 0, none⟩) rs.length rs.length) ur := by
  obtain ⟨us, hl, hgt, hp⟩ := h
  have hzl : (us.zip rs).length = rs.length := by rw [List.length_zip, hl, Nat.min_self]
  refine ⟨us.zip rs, List.map_snd_zip (by omega), ⟨?_, fun p hpm => ?_, ?_⟩⟩
  · refine ⟨flat_len rowVs 2 (fun _ => rfl) _, .inr ⟨z, rs.length, arr, by rw [hzl], Nat.le_refl _, hg, by rw [hzl]; exact Nat.le_refl _, hm, hs, ?_⟩⟩
    refine flat_arr rowVs 2 (fun _ => rfl) (us.zip rs) arr (by rw [hs, hzl]) (fun i hi j hj => ?_)
    rw [hzl] at hi
    obtain ⟨e1, e2, _⟩ := hgt i (by omega)
    rw [getD_get dR hi] at e2
    rw [List.getElem_zip]
    match j, hj with
    | 0, _ => exact e1
    | 1, _ => exact e2
  · obtain ⟨i, hi, rfl⟩ := List.mem_iff_getElem.1 hpm
    rw [hzl] at hi
    obtain ⟨_, _, e3⟩ := hgt i (by omega)
    rw [getD_get dR hi] at e3
    rw [List.getElem_zip]
    exact row_base e3 (Nat.le_succ _)
  · rw [List.pairwise_iff_getElem] at hp ⊢
    intro i j hi hj hij
    rw [List.getElem_zip, List.getElem_zip]
    exact hp i j (by omega) (by omega) hij
end Go.Proofs.Ytggmjiddadjilal
namespace Go.Proofs.Ytggmjiddadjilal
open Go.RowKit Go.Lib

theorem infoColn : (Try.prog.info? 76).map (fun i => (i.zero, i.size, i.bytes)) = some (some (Value.agg #[.int .i64 0, .int .i64 0]), 2, 16) := by kernel_rfl
set_option maxRecDepth 100000 in
set_option maxHeartbeats 2000000 in
theorem cloneCol (a : Option Addr) (n cap : Nat) (news : List Value) (hl : news.length = n * 2) (hn : n ≤ 1048576) (h1 : ∀ u ∈ news, u.oneCell' = true) (ha : n ≠ 0 → a ≠ none) (w : World)
    (hc : ∀ p, a = some p → ∀ j u, news[j]? = some u → w.cell? (p.add j) = some u) :
    Calls Try.prog 62 #[.slice a n cap] w fun e w' => ∃ v', e = .returned v' ∧ w'.ownsRow w.heap.size 76 2 v' n news ∧ Below w.heap.size w w' := by
  rcases a with _ | p
  · obtain rfl : n = 0 := by
      rcases Nat.eq_zero_or_pos n with h | h
      · exact h
      · exact absurd rfl (ha (by omega))
    obtain rfl : news = [] := List.length_eq_zero_iff.1 (by omega)
    have hq : ∀ (w : World), (binOp .eql 34 (.slice none 0 cap) (.slice none 0 0)).run Try.prog w = .ok (.bool true) w := fun w => Lib.run_eql_slice_nil w _ _ none 0 cap 0 0 Try.underlying34
    go_enter Try.func62, Try.ntmps62
    go_wp2
    go_ret
    exact ⟨_, rfl, ⟨rfl, .inl ⟨rfl, rfl⟩⟩, Below.refl _ _⟩
  · obtain ⟨i0, hi0, hz0, hz1, hz2⟩ := info_parts infoColn
    have hq : ∀ (w : World), (binOp .eql 34 (.slice (some p) n cap) (.slice none 0 0)).run Try.prog w = .ok (.bool false) w := fun w => Lib.run_eql_slice_nil w _ _ (some p) n cap 0 0 Try.underlying34
    have HC := Hid.intro (hc p rfl)
    clear hc
    go_enter Try.func62, Try.ntmps62
    go_wp2_with (at_builtin; refine wpList_append_own _ rfl _ _ 34 rfl w.heap.size 76 i0 _ 2 16 Try.underlying34 hi0 hz0 hz1 hz2 rfl (by decide) _ _ _ rfl (World.ownsRow_made w #[] 0 (Nat.le_refl _) (Nat.zero_le _) (by simp)) p n cap news rfl hl ?qc2 h1 ?qc4 ?qc5 ?qc6 ?_)
    case qc2 =>
      intro j u hj
      exact Lib.cell?_alloc_some _ (HC.out j u hj)
    case qc4 => rw [Nat.zero_add]; unfold maxLen; omega
    case qc5 => rw [Nat.zero_add]; omega
    case qc6 => simp
    intro v' w1 hown hgrow hnil
    go_wp2
    go_ret
    exact ⟨v', rfl, by simpa using hown, ((Below.refl _ w).alloc (Nat.le_refl _) _).grown hgrow (by simp) (by intro k hk; simp [Value.ownBlock] at hk; omega)⟩

theorem infoRown : (Try.prog.info? 51).map (fun i => (i.zero, i.size, i.bytes)) = some (some (Value.agg #[.slice none 0 0, .bool false]), 2, 32) := by kernel_rfl
set_option maxRecDepth 100000 in
set_option maxHeartbeats 2000000 in
theorem cloneRow (a : Option Addr) (n cap : Nat) (news : List Value) (hl : news.length = n * 2) (hn : n ≤ 1048576) (h1 : ∀ u ∈ news, u.oneCell' = true) (ha : n ≠ 0 → a ≠ none) (w : World)
    (hc : ∀ p, a = some p → ∀ j u, news[j]? = some u → w.cell? (p.add j) = some u) :
    Calls Try.prog 63 #[.slice a n cap] w fun e w' => ∃ v', e = .returned v' ∧ w'.ownsRow w.heap.size 51 2 v' n news ∧ Below w.heap.size w w' := by
  rcases a with _ | p
  · obtain rfl : n = 0 := by
      rcases Nat.eq_zero_or_pos n with h | h
      · exact h
      · exact absurd rfl (ha (by omega))
    obtain rfl : news = [] := List.length_eq_zero_iff.1 (by omega)
    have hq : ∀ (w : World), (binOp .eql 35 (.slice none 0 cap) (.slice none 0 0)).run Try.prog w = .ok (.bool true) w := fun w => Lib.run_eql_slice_nil w _ _ none 0 cap 0 0 Try.underlying35
    go_enter Try.func63, Try.ntmps63
    go_wp2
    go_ret
    exact ⟨_, rfl, ⟨rfl, .inl ⟨rfl, rfl⟩⟩, Below.refl _ _⟩
  · obtain ⟨i0, hi0, hz0, hz1, hz2⟩ := info_parts infoRown
    have hq : ∀ (w : World), (binOp .eql 35 (.slice (some p) n cap) (.slice none 0 0)).run Try.prog w = .ok (.bool false) w := fun w => Lib.run_eql_slice_nil w _ _ (some p) n cap 0 0 Try.underlying35
    have HC := Hid.intro (hc p rfl)
    clear hc
    go_enter Try.func63, Try.ntmps63
    go_wp2_with (at_builtin; refine wpList_append_own _ rfl _ _ 35 rfl w.heap.size 51 i0 _ 2 32 Try.underlying35 hi0 hz0 hz1 hz2 rfl (by decide) _ _ _ rfl (World.ownsRow_made w #[] 0 (Nat.le_refl _) (Nat.zero_le _) (by simp)) p n cap news rfl hl ?qc2 h1 ?qc4 ?qc5 ?qc6 ?_)
    case qc2 =>
      intro j u hj
      exact Lib.cell?_alloc_some _ (HC.out j u hj)
    case qc4 => rw [Nat.zero_add]; unfold maxLen; omega
    case qc5 => rw [Nat.zero_add]; omega
    case qc6 => simp
    intro v' w1 hown hgrow hnil
    go_wp2
    go_ret
    exact ⟨v', rfl, by simpa using hown, ((Below.refl _ w).alloc (Nat.le_refl _) _).grown hgrow (by simp) (by intro k hk; simp [Value.ownBlock] at hk; omega)⟩

theorem infoCelln : (Try.prog.info? 29).map (fun i => (i.zero, i.size, i.bytes)) = some (some (Value.agg #[.string ⟨#[]⟩, .int .i64 0, .int .i64 0, .int .i64 0, .int .i64 0, .int .i64 0, .int .i64 0, .int .i64 0, .int .i64 0, .int .i64 0, .int .i64 0]), 11, 96) := by kernel_rfl
set_option maxRecDepth 100000 in
set_option maxHeartbeats 2000000 in
theorem cloneCell (a : Option Addr) (n cap : Nat) (news : List Value) (hl : news.length = n * 11) (hn : n ≤ 1048576) (h1 : ∀ u ∈ news, u.oneCell' = true) (ha : n ≠ 0 → a ≠ none) (w : World)
    (hc : ∀ p, a = some p → ∀ j u, news[j]? = some u → w.cell? (p.add j) = some u) :
    Calls Try.prog 64 #[.slice a n cap] w fun e w' => ∃ v', e = .returned v' ∧ w'.ownsRow w.heap.size 29 11 v' n news ∧ Below w.heap.size w w' := by
  rcases a with _ | p
  · obtain rfl : n = 0 := by
      rcases Nat.eq_zero_or_pos n with h | h
      · exact h
      · exact absurd rfl (ha (by omega))
    obtain rfl : news = [] := List.length_eq_zero_iff.1 (by omega)
    have hq : ∀ (w : World), (binOp .eql 49 (.slice none 0 cap) (.slice none 0 0)).run Try.prog w = .ok (.bool true) w := fun w => Lib.run_eql_slice_nil w _ _ none 0 cap 0 0 Try.underlying49
    go_enter Try.func64, Try.ntmps64
    go_wp2
    go_ret
    exact ⟨_, rfl, ⟨rfl, .inl ⟨rfl, rfl⟩⟩, Below.refl _ _⟩
  · obtain ⟨i0, hi0, hz0, hz1, hz2⟩ := info_parts infoCelln
    have hq : ∀ (w : World), (binOp .eql 49 (.slice (some p) n cap) (.slice none 0 0)).run Try.prog w = .ok (.bool false) w := fun w => Lib.run_eql_slice_nil w _ _ (some p) n cap 0 0 Try.underlying49
    have HC := Hid.intro (hc p rfl)
    clear hc
    go_enter Try.func64, Try.ntmps64
    go_wp2_with (at_builtin; refine wpList_append_own _ rfl _ _ 49 rfl w.heap.size 29 i0 _ 11 96 Try.underlying49 hi0 hz0 hz1 hz2 rfl (by decide) _ _ _ rfl (World.ownsRow_made w #[] 0 (Nat.le_refl _) (Nat.zero_le _) (by simp)) p n cap news rfl hl ?qc2 h1 ?qc4 ?qc5 ?qc6 ?_)
    case qc2 =>
      intro j u hj
      exact Lib.cell?_alloc_some _ (HC.out j u hj)
    case qc4 => rw [Nat.zero_add]; unfold maxLen; omega
    case qc5 => rw [Nat.zero_add]; omega
    case qc6 => simp
    intro v' w1 hown hgrow hnil
    go_wp2
    go_ret
    exact ⟨v', rfl, by simpa using hown, ((Below.refl _ w).alloc (Nat.le_refl _) _).grown hgrow (by simp) (by intro k hk; simp [Value.ownBlock] at hk; omega)⟩
end Go.Proofs.Ytggmjiddadjilal
namespace Go.Proofs.Ytggmjiddadjilal
open Go.RowKit

/-- what lies ahead of B, or at D and behind it, is as it was -/
structure Out (B D : Nat) (w w' : World) : Prop where
  below : Below B w w'
  block : ∀ k, D ≤ k → k < w.heap.size → w'.heap[k]? = w.heap[k]?
theorem Out.refl (B D : Nat) (w : World) : Out B D w w := ⟨Below.refl _ _, fun _ _ _ => rfl⟩
theorem Out.set {B D : Nat} {a w : World} (h : Out B D a w) {p : Addr} (h1 : B ≤ p.block) (h2 : p.block < D) (v : Value) : Out B D a (w.setCell p v) :=
  ⟨h.below.setCell h1 v, fun k h3 h4 => (Below.heap_setCell _ _ _ _ (by omega)).trans (h.block k h3 h4)⟩
theorem Out.drewN {B D : Nat} {a w : World} (h : Out B D a w) (n : Nat) : Out B D a (w.drewN n) := ⟨⟨h.below.os, h.below.tape, h.below.output, h.below.size, h.below.block⟩, h.block⟩
end Go.Proofs.Ytggmjiddadjilal
namespace Go.Proofs.Ytggmjiddadjilal
open Go.RowKit

/-- a mark's digits, and a mark -/
def digs (n : Nat) (out : ByteArray) : ByteArray := if n = 0 then out else digs (n / 10) (⟨#[48 + UInt8.ofNat (n % 10)]⟩ ++ out)
termination_by n
decreasing_by omega
def mt (k : Nat) : ByteArray := ⟨#[109]⟩ ++ digs k ⟨#[]⟩
/-- a cell of marks -/
def mkC (k : Nat) : C := ⟨mt k, (k : Int) + 1, (k : Int) + 2, (k : Int) + 3, (k : Int) + 4, (k : Int) + 5, (k : Int) + 6, (k : Int) + 7, (k : Int) + 8, (k : Int) + 9, (k : Int) + 10⟩
def mkCs (n k : Nat) : List C := (List.range n).map fun i => mkC (k + 11 * i)
theorem mkCs_len (n k : Nat) : (mkCs n k).length = n := by simp [mkCs]
theorem mkCs_get {n k i : Nat} (h : i < n) : (mkCs n k).getD i dC = mkC (k + 11 * i) := by simp [mkCs, List.getD, h]
theorem put11_nextF {arr : Array Value} {f : Nat → C} {k n : Nat} (hs : n * 11 ≤ arr.size) (hk : k < n) (h : ∀ i, i < k → CellArr arr (i * 11) (f i)) :
    ∀ i, i < k + 1 → CellArr (put11 arr (k * 11) (f k)) (i * 11) (f i) := by
  intro i hi
  rcases Nat.lt_or_eq_of_le (Nat.lt_succ_iff.1 hi) with h1 | rfl
  · exact (h i h1).of_same (fun p hp1 hp2 => put11_before _ _ _ _ (by omega))
  · exact put11_at _ _ _ (by omega)
theorem flat_take {α : Type} (f : α → List Value) (sz : Nat) (hf : ∀ x, (f x).length = sz) (l : List α) (arr : Array Value) (hs : l.length * sz ≤ arr.size) (h : ∀ i, (hi : i < l.length) → ∀ j, j < sz → arr[i * sz + j]? = (f l[i])[j]?) : arr.toList.take (l.length * sz) = l.flatMap f := by
  have e := flat_arr f sz hf l (arr.extract 0 (l.length * sz)) (by rw [Array.size_extract]; omega) (fun i hi j hj => by
    have hlt : i * sz + j < l.length * sz := by
      have : (i + 1) * sz ≤ l.length * sz := Nat.mul_le_mul_right sz hi
      rw [Nat.succ_mul] at this
      omega
    rw [Array.getElem?_extract, if_pos (by omega), Nat.zero_add]
    exact h i hi j hj)
  rw [← e]
  simp [List.take_take]
theorem own_take {arr : Array Value} {cs : List C} (hs : cs.length * 11 ≤ arr.size) (h : ∀ i, i < cs.length → CellArr arr (i * 11) (cs.getD i dC)) : arr.toList.take (cs.length * 11) = cs.flatMap cellVs := by
  refine flat_take cellVs 11 (fun _ => rfl) cs arr hs (fun i hi j hj => ?_)
  have e := h i hi
  rw [getD_get dC hi] at e
  obtain ⟨h0, h1, h2, h3, h4, h5, h6, h7, h8, h9, h10⟩ := e
  match j, hj with
  | 0, _ => exact h0
  | 1, _ => exact h1
  | 2, _ => exact h2
  | 3, _ => exact h3
  | 4, _ => exact h4
  | 5, _ => exact h5
  | 6, _ => exact h6
  | 7, _ => exact h7
  | 8, _ => exact h8
  | 9, _ => exact h9
  | 10, _ => exact h10
theorem grown_refl (w : World) (r : Option Nat) : w.grownBy w r := ⟨rfl, rfl, rfl, Nat.le_refl _, fun _ _ _ => rfl⟩
theorem grown_trans {a b c : World} {r : Option Nat} (h : a.grownBy b r) (k : b.grownBy c r) : a.grownBy c r :=
  ⟨k.os.trans h.os, k.tape.trans h.tape, k.output.trans h.output, Nat.le_trans h.size k.size, fun i hi hr => (k.block i (Nat.lt_of_lt_of_le hi h.size) hr).trans (h.block i hi hr)⟩
theorem grown_below {a b : World} {r : Option Nat} (h : Below a.heap.size a b) : a.grownBy b r := ⟨h.os, h.tape, h.output, h.size, fun k hk _ => h.block k hk⟩
theorem grown_set {a w : World} {g : Nat} (h : a.grownBy w (some g)) {p : Addr} (hp : p.block = g) (v : Value) : a.grownBy (w.setCell p v) (some g) :=
  ⟨h.os, h.tape, h.output, by rw [sizeSet]; exact h.size, fun k hk hr => (Below.heap_setCell _ _ _ _ (fun e => hr (by rw [e, hp]))).trans (h.block k hk hr)⟩
end Go.Proofs.Ytggmjiddadjilal
