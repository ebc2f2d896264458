/-
  PROVED HERE: where a table of package laws can be read, it lies in memory as 'TblAt' says.
-/
import Derived.Test.YtkcpcihamcdecarOpenCell
import Derived.Test.YtkcpcihamcdecarTbl
import Derived.Deep.Slices
import Derived.WideShapes
namespace Go.Proofs.Ytkcpcihamcdecar
open Go.RowKit Go.ChangeShapes Go.Deep

theorem cBool : Try.prog.cellsOf 4 = 1 := by kernel_rfl
theorem cColL : Try.prog.cellsOf 98 = 2 := by kernel_rfl
theorem cRowL : Try.prog.cellsOf 96 = 2 := by kernel_rfl
theorem cSlC : Try.prog.cellsOf 94 = 1 := by kernel_rfl
theorem cSlK : Try.prog.cellsOf 46 = 1 := by kernel_rfl
theorem cSlR : Try.prog.cellsOf 47 = 1 := by kernel_rfl
theorem cTblL : Try.prog.cellsOf 49 = 5 := by kernel_rfl

theorem choose_list {α : Type} (d : α) (P : Nat → α → Prop) : ∀ n, (∀ i, i < n → ∃ x, P i x) → ∃ l : List α, l.length = n ∧ ∀ i, i < n → P i (l.getD i d)
  | 0, _ => ⟨[], rfl, fun i hi => absurd hi (Nat.not_lt_zero _)⟩
  | n + 1, h => by
    obtain ⟨l, hl, hp⟩ := choose_list d P n (fun i hi => h i (Nat.lt_succ_of_lt hi))
    obtain ⟨x, hx⟩ := h n (Nat.lt_succ_self _)
    refine ⟨l ++ [x], by simp [hl], fun i hi => ?_⟩
    rcases Nat.lt_or_eq_of_le (Nat.lt_succ_iff.1 hi) with h1 | h1
    · have e : (l ++ [x]).getD i d = l.getD i d := by simp [List.getD, List.getElem?_append_left (by omega : i < l.length)]
      rw [e]; exact hp i h1
    · subst h1
      have e : (l ++ [x]).getD i d = x := by simp [List.getD, ← hl]
      rw [e]; exact hx

section
variable {H : Type} {enc : TypeId × Value → H} {w : World} {spare : Nat → Bool} {held : Bool}

theorem spot_none {a : Addr} {sz : Nat} {cs : List Value} (hs : 0 < sz) (h : w.cells? 0 (a.add (0 * sz)) sz = some cs) : ∃ b off, a = ⟨b, off, none⟩ := by
  obtain ⟨b, off, spot⟩ := a
  obtain ⟨_, hl, hc⟩ := World.cells?_some h
  have h0 := hc 0 hs
  rw [List.getElem?_eq_getElem (by omega)] at h0
  have hsp := World.cell?_spot h0
  simp [Addr.add] at hsp
  exact ⟨b, off, by rw [hsp]⟩
/-- the cells of an element of a slice, one by one -/
theorem elem_cells {b off i sz : Nat} {cs : List Value} (hs : 0 < sz) (h : w.cells? 0 ((⟨b, off, none⟩ : Addr).add (i * sz)) sz = some cs) : b < w.heap.size ∧ cs.length = sz ∧ ∀ j, j < sz → w.cell? ⟨b, off + i * sz + j, none⟩ = cs[j]? := by
  rw [Go.WideShapes.add_plain] at h
  have hb := World.cells?_block h hs
  obtain ⟨_, hl, hc⟩ := World.cells?_some h
  exact ⟨hb, hl, fun j hj => by rw [← Go.WideShapes.add_plain b (off + i * sz) j]; exact hc j hj⟩

/-- a slice that can be read, whatever its elements are -/
theorem open_at {α : Type} {t e : TypeId} {fuel sz : Nat} {cs : List Value} {x : DataW H × List MemPlace} (d : α) (ht : Try.prog.underlying t = some (.slice e)) (hc : Try.prog.cellsOf e = sz) (hs : 0 < sz)
    (E : α → Nat → Nat → Prop)
    (hE : ∀ (n b o : Nat) (cs' : List Value) (y : DataW H × List MemPlace), DataW.trod enc Try.prog w 0 spare held n e cs' = some y → (∀ j, j < sz → w.cell? ⟨b, o + j, none⟩ = cs'[j]?) → ∃ x, E x b o)
    (h : DataW.trod enc Try.prog w 0 spare held fuel t cs = some x) : ∃ (v : Value) (l : List α), cs = [v] ∧ At w 0 v l.length sz (fun i b o => E (l.getD i d) b o) := by
  rcases open_slice ht h with ⟨hcs, _⟩ | ⟨a, len, cap, m, n, D, Pl, hcs, _, hl, hm, hmm, _, hx⟩
  · exact ⟨_, [], hcs, ⟨none, 0, rfl, Nat.le_refl _, Nat.zero_le _, fun i hi => absurd hi (Nat.not_lt_zero _)⟩⟩
  · rw [hc] at hx
    have hlm : len ≤ m := by rw [hmm]; split <;> omega
    rcases Nat.eq_zero_or_pos len with h0 | h0
    · subst h0
      exact ⟨_, [], hcs, ⟨some a, cap, rfl, Nat.zero_le _, hm, fun i hi => absurd hi (Nat.not_lt_zero _)⟩⟩
    · obtain ⟨cs0, hc0, _⟩ := hx 0 (by omega)
      obtain ⟨b, off, rfl⟩ := spot_none hs hc0
      obtain ⟨l, hll, hp⟩ := choose_list d (fun i x => b < w.heap.size ∧ E x b (off + i * sz)) len (fun i hi => by
        obtain ⟨cs', h1, h2⟩ := hx i (by omega)
        obtain ⟨hb, _, hcell⟩ := elem_cells hs h1
        obtain ⟨x, hx⟩ := hE _ b (off + i * sz) cs' _ h2 hcell
        exact ⟨x, hb, hx⟩)
      refine ⟨_, l, hcs, ⟨some ⟨b, off, none⟩, cap, by rw [hll], by omega, hm, fun i hi => ?_⟩⟩
      obtain ⟨hb, hx⟩ := hp i (by omega)
      exact ⟨b, off, rfl, hb, Nat.zero_le _, hx⟩

theorem openCellsL {fuel : Nat} {cs : List Value} {x : DataW H × List MemPlace} (h : DataW.trod enc Try.prog w 0 spare held fuel 94 cs = some x) : ∃ (v : Value) (l : List C), cs = [v] ∧ CellsAt w 0 v l := by
  refine open_at (α := C) dC Try.underlying94 cCellL (by omega) (fun x b o => CellIs w b o x ∧ x.s.size ≤ maxLen) (fun n b o cs' y hy hc => ?_) h
  obtain ⟨s, c, r, a1, b1, a2, b2, a3, b3, a4, b4, hs, rfl⟩ := openCellL hy
  exact ⟨⟨s, c, r, a1, b1, a2, b2, a3, b3, a4, b4⟩, ⟨hc 0 (by omega), hc 1 (by omega), hc 2 (by omega), hc 3 (by omega), hc 4 (by omega), hc 5 (by omega), hc 6 (by omega), hc 7 (by omega), hc 8 (by omega), hc 9 (by omega), hc 10 (by omega)⟩, hs⟩

set_option maxRecDepth 100000 in
theorem openColsL {fuel : Nat} {cs : List Value} {x : DataW H × List MemPlace} (h : DataW.trod enc Try.prog w 0 spare held fuel 46 cs = some x) : ∃ (v : Value) (l : List (Int × Int)), cs = [v] ∧ ColsAt w 0 v l := by
  refine open_at (α := Int × Int) (0, 0) Try.underlying46 cColL (by omega) (fun x b o => w.cell? ⟨b, o, none⟩ = some (.int .i64 x.1) ∧ w.cell? ⟨b, o + 1, none⟩ = some (.int .i64 x.2)) (fun n b o cs' y hy hc => ?_) h
  obtain ⟨y0, y1, m, _, hl, h0, h1⟩ := trod_struct2 Try.underlying98 hy
  rw [cColL] at hl
  match cs', hl with
  | [c0, c1], _ =>
    simp [cInt] at h0 h1
    obtain ⟨a, e0, _, _⟩ := DataW.trod_int Try.underlying3 h0
    obtain ⟨b', e1, _, _⟩ := DataW.trod_int Try.underlying3 h1
    simp at e0 e1
    subst e0 e1
    exact ⟨(a, b'), hc 0 (by omega), hc 1 (by omega)⟩

set_option maxRecDepth 100000 in
theorem openRowsL {fuel : Nat} {cs : List Value} {x : DataW H × List MemPlace} (h : DataW.trod enc Try.prog w 0 spare held fuel 47 cs = some x) : ∃ (v : Value) (l : List R), cs = [v] ∧ RowsAt w 0 v l := by
  refine open_at (α := R) dR Try.underlying47 cRowL (by omega) (fun x b o => ∃ u, w.cell? ⟨b, o, none⟩ = some u ∧ w.cell? ⟨b, o + 1, none⟩ = some (.bool x.whole) ∧ CellsAt w 0 u x.cells) (fun n b o cs' y hy hc => ?_) h
  obtain ⟨y0, y1, m, _, hl, h0, h1⟩ := trod_struct2 Try.underlying96 hy
  rw [cRowL] at hl
  match cs', hl with
  | [c0, c1], _ =>
    simp [cSlC, cBool] at h0 h1
    obtain ⟨v, l, e0, hv⟩ := openCellsL h0
    obtain ⟨q, e1, _⟩ := DataW.trod_bool Try.underlying4 h1
    simp at e0 e1
    subst e0 e1
    exact ⟨⟨l, q⟩, c0, hc 0 (by omega), hc 1 (by omega), hv⟩

set_option maxRecDepth 100000 in
theorem openTblL {fuel : Nat} {cs : List Value} {x : DataW H × List MemPlace} (h : DataW.trod enc Try.prog w 0 spare held fuel 49 cs = some x) : ∃ t : T, TblAt w 0 (.agg cs.toArray) t := by
  obtain ⟨xs, n, _, _, hl, hlen, hf⟩ := DataW.trod_struct Try.underlying49 h
  rw [cTblL] at hl
  simp at hlen
  match cs, hl with
  | [c0, c1, c2, c3, c4], _ =>
    obtain ⟨y0, k0⟩ := some_of (i := 0) hlen (by omega)
    obtain ⟨y1, k1⟩ := some_of (i := 1) hlen (by omega)
    obtain ⟨y2, k2⟩ := some_of (i := 2) hlen (by omega)
    obtain ⟨y3, k3⟩ := some_of (i := 3) hlen (by omega)
    obtain ⟨y4, k4⟩ := some_of (i := 4) hlen (by omega)
    have f0 := (hf 0 _ rfl).trans k0
    have f1 := (hf 1 _ rfl).trans k1
    have f2 := (hf 2 _ rfl).trans k2
    have f3 := (hf 3 _ rfl).trans k3
    have f4 := (hf 4 _ rfl).trans k4
    simp [cInt, cSlK, cSlR] at f0 f1 f2 f3 f4
    obtain ⟨vc, lc, e0, hvc⟩ := openColsL f0
    obtain ⟨hd, e1, _, _⟩ := DataW.trod_int Try.underlying3 f1
    obtain ⟨ft, e2, _, _⟩ := DataW.trod_int Try.underlying3 f2
    obtain ⟨vr, lr, e3, hvr⟩ := openRowsL f3
    obtain ⟨gp, e4, _, _⟩ := DataW.trod_int Try.underlying3 f4
    simp at e0 e1 e2 e3 e4
    subst e0 e1 e2 e3 e4
    exact ⟨⟨lc, hd, ft, lr, gp⟩, c0, c3, rfl, hvc, hvr⟩
end
end Go.Proofs.Ytkcpcihamcdecar
