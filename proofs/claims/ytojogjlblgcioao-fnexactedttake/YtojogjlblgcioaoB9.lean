/-
  PROVED HERE: how a table that is owned changes where one cell's place in memory is written; how many cells a row has; facts for the texts on edits. Also: bounds of a table that is ok, as lists. Also: how far a table's marks count; what stays of owned tables and boxes where others are marked: for the laws on edits. Also: a region that draws its order, whose own operations only read and whose callees turn nothing that was in memory, may be walked once, in its text's order. Also: what the laws' own heldTblColS, heldTblCellS, heldTblRowS and heldTblTable answer of a table that was marked: the number behind the last mark; nothing that was in memory is turned.
-/
import Derived.Test.YtojogjlblgcioaoB8
import Derived.Deep.QuietTactic
import Derived.BigQuiet
namespace Go.Proofs.Ytojogjlblgcioao
open Go.RowKit

/-- nothing -/
def zT : T := ⟨[], 0, 0, [], 0⟩
def cellsInV (t : T) (row : Int) : Int := if inB row 0 ((t.rows.length : Int) - 1) = true then ((t.rows.getD row.toNat dR).cells.length : Int) else -1
def hasB (t : T) (row at' : Int) : Bool := inB at' 0 (cellsInV t row - 1)
theorem hasB_iff {t : T} {row at' : Int} : hasB t row at' = true ↔ ∃ r a : Nat, row = r ∧ at' = a ∧ r < t.rows.length ∧ a < (t.rows.getD r dR).cells.length := by
  unfold hasB cellsInV
  constructor
  · intro h
    simp only [inB, decide_eq_true_eq] at h
    split at h
    · rename_i h1
      refine ⟨row.toNat, at'.toNat, by omega, by omega, by omega, by omega⟩
    · omega
  · rintro ⟨r, a, rfl, rfl, h1, h2⟩
    rw [if_pos (inB_true (by omega) (by omega)), Int.toNat_natCast]
    exact inB_true (by omega) (by omega)
/-- one row's cells others -/
def setRow (t : T) (r : Nat) (cs : List C) : T := ⟨t.cols, t.head, t.foot, t.rows.set r ⟨cs, (t.rows.getD r dR).whole⟩, t.gap⟩

theorem OwnC.put {w : World} {B : Nat} {g cap : Nat} {cs : List C} (h : OwnC w B (.slice (some ⟨g, 0, none⟩) cs.length cap) cs) {a j : Nat} (ha : a < cs.length) (hj : j < 11) {x : C} {v : Value} (hx : cellVs x = (cellVs cs[a]).set j v) :
    OwnC (w.setCell ⟨g, a * 11 + j, none⟩ v) B (.slice (some ⟨g, 0, none⟩) cs.length cap) (cs.set a x) := by
  rcases h.2 with ⟨e, _⟩ | ⟨g', cap', cur, e, hg, hc, a1, a2, a3, a4⟩
  · simp at e
  · simp only [Value.slice.injEq, Option.some.injEq, Addr.mk.injEq, and_true, true_and] at e
    obtain ⟨rfl, rfl⟩ := e
    refine ⟨flat_len cellVs 11 (fun _ => rfl) _, .inr ⟨g, cap, cur.setIfInBounds (a * 11 + j) v, by rw [List.length_set], hg, setB hc _, by rw [List.length_set]; exact a1, a2, by rw [Array.size_setIfInBounds]; exact a3, ?_⟩⟩
    refine flat_take cellVs 11 (fun _ => rfl) (cs.set a x) (cur.setIfInBounds (a * 11 + j) v) (by rw [List.length_set, Array.size_setIfInBounds, a3]; omega) (fun i hi0 m hm => ?_)
    have hi : i < cs.length := by rw [List.length_set] at hi0; exact hi0
    have hold : cur[i * 11 + m]? = (cellVs cs[i])[m]? := by
      have e := flat_get cellVs 11 (fun _ => rfl) cs i hi m hm
      rw [← a4, List.getElem?_take_of_lt (by omega), Array.getElem?_toList] at e
      exact e
    by_cases hia : i = a
    · subst hia
      rw [List.getElem_set_self, hx]
      by_cases hmj : m = j
      · subst hmj
        rw [Array.getElem?_setIfInBounds_self_of_lt (by rw [a3]; omega), List.getElem?_set_self (by show m < 11; exact hm)]
      · rw [Array.getElem?_setIfInBounds_ne (by omega), List.getElem?_set_ne (by omega)]
        exact hold
    · rw [List.getElem_set_ne (by omega), Array.getElem?_setIfInBounds_ne (by omega)]
      exact hold
/-- one row of a table that is owned: its cells others, in their block -/
theorem OwnR.upd {w w1 : World} {base : Nat} {v : Value} {ur : List (Value × R)} (h : OwnR w base v ur) {i : Nat} {p : Value × R} (hi : ur[i]? = some p) {r : R} (hw : r.whole = p.2.whole) (hc : OwnC w1 base p.1 r.cells) (k : w.grownBy w1 p.1.ownBlock) : OwnR w1 base v (ur.set i (p.1, r)) := by
  have hil : i < ur.length := (List.getElem?_eq_some_iff.1 hi).1
  have ep : ur[i] = p := by rw [List.getElem?_eq_getElem hil] at hi; exact Option.some.inj hi
  have hpm : p ∈ ur := List.mem_of_getElem? hi
  have K1 : Off 0 none p.1.ownBlock w w1 := Off.grown k
  have hnn : ∀ u : Value, u.ownBlock = none ∨ u.ownBlock ≠ none := fun u => by rcases hb : u.ownBlock with _ | b; exact .inl rfl; exact .inr (by simp)
  have hne : v.ownBlock = none ∨ v.ownBlock ≠ p.1.ownBlock := row_ne h.own (h.cells p hpm) (by decide)
  have h1 := row_off h.own K1 (Nat.zero_le _) (hnn v) hne
  have hfst : ∀ j, (hj : j < ur.length) → ((ur.set i (p.1, r))[j]'(by rw [List.length_set]; exact hj)).1 = ur[j].1 := fun j hj => by
    by_cases hji : j = i
    · subst hji
      rw [List.getElem_set_self, ep]
    · rw [List.getElem_set_ne (by omega)]
  have hfl : (ur.set i (p.1, r)).flatMap rowVs = ur.flatMap rowVs := by
    apply List.ext_getElem?
    intro q
    have l1 := flat_len rowVs 2 (fun _ => rfl) (ur.set i (p.1, r))
    have l2 := flat_len rowVs 2 (fun _ => rfl) ur
    rw [List.length_set] at l1
    by_cases hq : q < ur.length * 2
    · have e : q = q / 2 * 2 + q % 2 := by omega
      have b1 := flat_get rowVs 2 (fun _ => rfl) (ur.set i (p.1, r)) (q / 2) (by rw [List.length_set]; omega) (q % 2) (by omega)
      have b2 := flat_get rowVs 2 (fun _ => rfl) ur (q / 2) (by omega) (q % 2) (by omega)
      rw [← e] at b1 b2
      rw [b1, b2]
      by_cases hji : q / 2 = i
      · subst hji
        rw [List.getElem_set_self, ep, rowVs, rowVs, hw]
      · rw [List.getElem_set_ne (by omega)]
    · rw [List.getElem?_eq_none (by omega), List.getElem?_eq_none (by omega)]
  refine ⟨?_, fun q hq => ?_, ?_⟩
  · rw [hfl, List.length_set]
    exact h1
  · obtain ⟨j, hj0, rfl⟩ := List.mem_iff_getElem.1 hq
    have hj : j < ur.length := by rw [List.length_set] at hj0; exact hj0
    by_cases hji : j = i
    · subst hji
      rw [List.getElem_set_self]
      exact hc
    · rw [List.getElem_set_ne (by omega)]
      have hap : ur[j].1.ownBlock = none ∨ ur[j].1.ownBlock ≠ p.1.ownBlock := by
        have hp := List.pairwise_iff_getElem.1 h.apart
        rcases Nat.lt_or_gt_of_ne hji with hl | hl
        · rw [← ep]; exact hp j i hj hil hl
        · have := hp i j hil hj hl
          rw [ep] at this
          rcases hb : ur[j].1.ownBlock with _ | b
          · exact .inl rfl
          · refine .inr (fun e => ?_)
            rcases this with e1 | e1
            · rw [e1] at e; cases e
            · exact e1 (e.symm.trans hb.symm)
      exact row_off (h.cells _ (List.getElem_mem hj)) K1 (Nat.zero_le _) (hnn _) hap
  · rw [List.pairwise_iff_getElem]
    have hp := List.pairwise_iff_getElem.1 h.apart
    intro a b ha0 hb0 hab
    have ha : a < ur.length := by rw [List.length_set] at ha0; exact ha0
    have hb : b < ur.length := by rw [List.length_set] at hb0; exact hb0
    rw [hfst a ha, hfst b hb]
    exact hp a b ha hb hab
theorem OwnC.atM {w : World} {base : Nat} {u : Value} {cs : List C} (h : OwnC w base u cs) (hs : ∀ x ∈ cs, x.s.size ≤ maxLen) : CellsAt w base u cs := by
  rcases h.2 with ⟨rfl, hn⟩ | ⟨g, cap, cur, rfl, hg, hc, h1, h2, _⟩
  · exact ⟨none, 0, by rw [hn], by omega, by unfold maxLen; omega, fun i hi => by omega⟩
  · refine ⟨_, cap, rfl, h1, h2, fun i hi => ⟨g, 0, rfl, (Array.getElem?_eq_some_iff.1 hc).1, hg, ?_, ?_⟩⟩
    · have hx : ∀ j, j < 11 → w.cell? ⟨g, i * 11 + j, none⟩ = (cellVs cs[i])[j]? := fun j hj => by
        have e := flat_get cellVs 11 (fun _ => rfl) cs i hi j hj
        rw [row_cell h (u := (cellVs cs[i])[j]'(by show j < 11; exact hj)) (by rw [e]; simp)]
        simp
      rw [getD_get dC hi, Nat.zero_add]
      exact ⟨hx 0 (by omega), hx 1 (by omega), hx 2 (by omega), hx 3 (by omega), hx 4 (by omega), hx 5 (by omega), hx 6 (by omega), hx 7 (by omega), hx 8 (by omega), hx 9 (by omega), hx 10 (by omega)⟩
    · rw [getD_get dC hi]
      exact hs _ (List.getElem_mem hi)
theorem OwnR.atM {w : World} {base : Nat} {v : Value} {ur : List (Value × R)} (h : OwnR w base v ur) (hs : ∀ p ∈ ur, ∀ x ∈ p.2.cells, x.s.size ≤ maxLen) : RowsAt w base v (ur.map (·.2)) := by
  have hl : (ur.map (·.2)).length = ur.length := by simp
  rcases h.own.2 with ⟨rfl, hn⟩ | ⟨g, cap, cur, rfl, hg, hc, h1, h2, _⟩
  · exact ⟨none, 0, by rw [hl, hn], by rw [hl]; omega, by unfold maxLen; omega, fun i hi => by rw [hl] at hi; omega⟩
  · refine ⟨_, cap, by rw [hl], by rw [hl]; exact h1, h2, fun i hi => ⟨g, 0, rfl, (Array.getElem?_eq_some_iff.1 hc).1, hg, ?_⟩⟩
    rw [hl] at hi
    have hx : ∀ j, j < 2 → w.cell? ⟨g, i * 2 + j, none⟩ = (rowVs ur[i])[j]? := fun j hj => by
      have e := flat_get rowVs 2 (fun _ => rfl) ur i hi j hj
      rw [row_cell h.own (u := (rowVs ur[i])[j]'(by show j < 2; exact hj)) (by rw [e]; simp)]
      simp
    have hm := List.getElem_mem hi
    dsimp only
    rw [getD_get dR (by rw [hl]; exact hi), Nat.zero_add, List.getElem_map]
    exact ⟨ur[i].1, hx 0 (by omega), hx 1 (by omega), (h.cells _ hm).atM (hs _ hm)⟩
/-- no text is too long to be one -/
def TxM (t : T) : Prop := ∀ r ∈ t.rows, ∀ x ∈ r.cells, x.s.size ≤ maxLen
theorem OwnT.cols {w : World} {base : Nat} {vc vr : Value} {t : T} (h : OwnT w base vc vr t) : ColsAt w base vc t.cols := by
  obtain ⟨_, _, a, _⟩ := h
  exact a.at
theorem OwnT.rows {w : World} {base : Nat} {vc vr : Value} {t : T} (h : OwnT w base vc vr t) (hs : TxM t) : RowsAt w base vr t.rows := by
  obtain ⟨ur, e, _, b⟩ := h
  rw [← e]
  exact b.atM (fun p hp => hs p.2 (by rw [← e]; exact List.mem_map_of_mem hp))
theorem OwnT.kept {w w' : World} {base : Nat} {vc vr : Value} {t : T} (h : OwnT w base vc vr t) (k : Below w.heap.size w w') : OwnT w' base vc vr t := h.since (.of_below k)
theorem txM_at {w : World} {z : Nat} {v : Value} {rs : List R} (h : RowsAt w z v rs) : ∀ r ∈ rs, ∀ x ∈ r.cells, x.s.size ≤ maxLen := by
  intro r hr x hx
  obtain ⟨i, hi, rfl⟩ := List.mem_iff_getElem.1 hr
  obtain ⟨_, _, _, _, _, _, _, u, _, _, hc⟩ := At.get h hi
  rw [getD_get dR hi] at hc
  obtain ⟨j, hj, rfl⟩ := List.mem_iff_getElem.1 hx
  obtain ⟨_, _, _, _, _, _, _, _, hs⟩ := At.get hc hj
  rw [getD_get dC hj] at hs
  exact hs
end Go.Proofs.Ytojogjlblgcioao
namespace Go.Proofs.Ytojogjlblgcioao
open Go.RowKit

/-- bounds of a table that is ok -/
theorem tbl_bounds {t : T} (h : tblB t = true) : t.cols.length ≤ 8 ∧ 1 ≤ t.rows.length ∧ t.rows.length ≤ 8 ∧ ∀ i, i < t.rows.length → (t.rows.getD i dR).cells.length ≤ 5 := by
  simp only [tblB, colsB, inB, Bool.and_eq_true, decide_eq_true_eq, List.all_eq_true] at h
  obtain ⟨h1, _, _, ⟨h4, _⟩, h5⟩ := h
  refine ⟨h4, by omega, by omega, fun i hi => ?_⟩
  have := h5 _ (List.getElem_mem hi)
  rw [getD_get dR hi]
  simp only [rowB, Bool.and_eq_true, decide_eq_true_eq] at this
  exact this.1
end Go.Proofs.Ytojogjlblgcioao
namespace Go.Proofs.Ytojogjlblgcioao
open Go.RowKit

theorem kAt_tot (rs : List R) (k : Nat) : ∀ i, i ≤ rs.length → kAt rs k i ≤ k + 11 * (i + rwTo rs i)
  | 0, _ => by show k ≤ _; omega
  | i + 1, h => by
    have ih := kAt_tot rs k i (by omega)
    have e := rwTo_succ (show i < rs.length by omega)
    have e2 := totC_eq (rs.getD i dR).cells
    show kAt rs k i + 11 * (rs.getD i dR).cells.length + 1 ≤ _
    omega
theorem kEnd_tot {cols : List (Int × Int)} {ur : List (Value × R)} {t : T} (hc : cols = t.cols) (hu : ur.map (·.2) = t.rows) (h : totT t ≤ 1048576) : kEnd cols ur ≤ 99999990 := by
  have hl : ur.length = t.rows.length := by rw [← hu, List.length_map]
  have h1 := kAt_tot t.rows (1 + 2 * cols.length) t.rows.length (Nat.le_refl _)
  have h2 := totR_eq t.rows
  unfold kEnd
  rw [hu, hl]
  unfold totT at h
  rw [hc] at h1 ⊢
  omega
/-- a table of few rows and cells -/
structure SmT (t : T) : Prop where
  cols : t.cols.length ≤ 8
  rows : t.rows.length ≤ 9
  cells : ∀ i, i < t.rows.length → (t.rows.getD i dR).cells.length ≤ 6
theorem kAt_sm {rs : List R} (h : ∀ i, i < rs.length → (rs.getD i dR).cells.length ≤ 6) (k : Nat) : ∀ i, i ≤ rs.length → kAt rs k i ≤ k + 67 * i
  | 0, _ => by show k ≤ _; omega
  | i + 1, hi => by
    have ih := kAt_sm h k i (by omega)
    have e := h i (by omega)
    show kAt rs k i + 11 * (rs.getD i dR).cells.length + 1 ≤ _
    omega
theorem kEnd_sm {cols : List (Int × Int)} {ur : List (Value × R)} {t : T} (hc : cols = t.cols) (hu : ur.map (·.2) = t.rows) (h : SmT t) : kEnd cols ur ≤ 99999990 := by
  have hl : ur.length = t.rows.length := by rw [← hu, List.length_map]
  have h1 := kAt_sm h.cells (1 + 2 * cols.length) t.rows.length (Nat.le_refl _)
  have h2 := h.cols
  have h3 := h.rows
  unfold kEnd
  rw [hu, hl]
  rw [hc] at h1 ⊢
  omega
theorem smT_ok {t : T} (h : tblB t = true) : SmT t := by
  obtain ⟨h1, _, h3, h4⟩ := tbl_bounds h
  exact ⟨h1, by omega, fun i hi => by have := h4 i hi; omega⟩
theorem smT_z : SmT zT := ⟨by decide, by decide, fun i hi => absurd hi (Nat.not_lt_zero _)⟩
theorem txM_z : TxM zT := fun r hr => absurd hr (by simp [zT])
theorem smT_set {t : T} (h : SmT t) {r : Nat} {cs : List C} (hc : cs.length ≤ 6) : SmT (setRow t r cs) := by
  refine ⟨h.cols, by rw [setRow, List.length_set]; exact h.rows, fun i hi => ?_⟩
  rw [setRow, List.length_set] at hi
  show ((t.rows.set r ⟨cs, (t.rows.getD r dR).whole⟩).getD i dR).cells.length ≤ 6
  by_cases e : r = i
  · subst e
    simp [List.getD, hi]
    exact hc
  · have := h.cells i hi
    simp [List.getD, e, hi] at this ⊢
    exact this
theorem txM_set {t : T} (h : TxM t) {r : Nat} {cs : List C} (hc : ∀ x ∈ cs, x.s.size ≤ maxLen) : TxM (setRow t r cs) := by
  intro q hq x hx
  rcases List.mem_or_eq_of_mem_set hq with hm | rfl
  · exact h q hm x hx
  · exact hc x hx
theorem Out.kept {w W W' : World} {n B D : Nat} (h : Below n w W) (k : Out B D W W') (hn : n ≤ B) : Below n w W' := h.trans (k.below.mono hn)
theorem Out.box {W W' : World} {B D b : Nat} {o : Obj} (h : W.heap[b]? = some o) (k : Out B D W W') (hd : b < B ∨ D ≤ b) : W'.heap[b]? = some o := by
  rcases hd with hd | hd
  · exact (k.below.block b hd).trans h
  · exact (k.block b hd (Array.getElem?_eq_some_iff.1 h).1).trans h
theorem box_kept {W W' : World} {b : Nat} {o : Obj} (h : W.heap[b]? = some o) (k : Below W.heap.size W W') : W'.heap[b]? = some o := (k.block b (Array.getElem?_eq_some_iff.1 h).1).trans h
/-- an owned table lies in memory -/
theorem OwnD.tbl {w : World} {B D : Nat} {vc vr : Value} {t : T} {ur : List (Value × R)} (h : OwnD w B D vc vr t.cols ur) (hu : ur.map (·.2) = t.rows) (hs : TxM t) : TblAt w B (.agg #[vc, .int .i64 t.head, .int .i64 t.foot, vr, .int .i64 t.gap]) t :=
  ⟨vc, vr, rfl, h.1.at, by rw [← hu]; exact h.2.1.atM (fun p hp => hs p.2 (by rw [← hu]; exact List.mem_map_of_mem hp))⟩
end Go.Proofs.Ytojogjlblgcioao
namespace Go.Proofs.Ytojogjlblgcioao
open Go.RowKit

/-- a world in which what was in memory is as it was -/
structure BW (w : World) where
  u : World
  h : Below w.heap.size w u
theorem bw_some (w : World) : Nonempty (BW w) := ⟨⟨w, Below.refl _ _⟩⟩
theorem wp_region_quiet_below {P : Program} {id : Nat} {Q : Exit → Act → World → Prop} {a : Act} {w : World} {l : List Oper} (hm : P.follows .mixedOrders = true) (hB : Region.lexB .any l.toArray = true)
    (h : wpQuiet P l.toArray (fun w' => ∃ p : BW w, w' = p.u) (fun a' => ∀ w', (∃ p : BW w, w' = p.u) → Q .normal a' w') l a) : (Code.region id l.toArray true).wp P Q a w :=
  wp_region_quiet (C := fun w' => ∃ p : BW w, w' = p.u) hm hB ⟨⟨_, k_drew (Below.refl _ _)⟩, rfl⟩ (by simpa using h)
theorem bw_of {P : Program} {f : FuncId} {args : Array Value} {w : World} {p : BW w} {v : Value} (h : Calls P f args p.u fun e w' => e = .returned v ∧ Below p.u.heap.size p.u w') :
    Calls P f args p.u fun e w'' => e = .returned v ∧ ∃ p : BW w, w'' = p.u :=
  h.mono fun _ _ ⟨he, hb⟩ => ⟨he, ⟨_, k_trans p.h hb⟩, rfl⟩
theorem bw_same {P : Program} {f : FuncId} {args : Array Value} {w : World} {p : BW w} {v : Value} (h : Calls P f args p.u fun e w' => e = .returned v ∧ w' = p.u) :
    Calls P f args p.u fun e w'' => e = .returned v ∧ ∃ p : BW w, w'' = p.u :=
  h.mono fun _ _ ⟨he, hb⟩ => ⟨he, p, hb⟩
theorem bw_cell {w : World} {a : Addr} {v : Value} (hb : a.block < w.heap.size) (h : w.cell? a = some v) (p : BW w) : p.u.cell? a = some v := (p.h.cell hb).trans h
end Go.Proofs.Ytojogjlblgcioao
namespace Go.Proofs.Ytojogjlblgcioao
open Go.RowKit

theorem own_cells {w : World} {B n k0 : Nat} {u : Value} (h : OwnC w B u (mkCs n k0)) : ∃ a cap, u = .slice a n cap ∧ n ≤ maxLen ∧ ∀ i, i < n → ∃ g, a = some ⟨g, 0, none⟩ ∧ n ≤ cap ∧ cap ≤ maxLen ∧ g < w.heap.size ∧ CellIs w g (i * 11) (mkC (k0 + 11 * i)) := by
  have hl := mkCs_len n k0
  rcases h.2 with ⟨rfl, e⟩ | ⟨g, cap, cur, rfl, hg, hc, a1, a2, a3, a4⟩
  · rw [hl] at e
    subst e
    exact ⟨none, 0, rfl, Nat.zero_le _, fun i hi => absurd hi (Nat.not_lt_zero _)⟩
  · rw [hl] at a1 a4
    refine ⟨some ⟨g, 0, none⟩, cap, by rw [hl], Nat.le_trans a1 a2, fun i hi => ⟨g, rfl, a1, a2, (Array.getElem?_eq_some_iff.1 hc).1, ?_⟩⟩
    have hx : ∀ j, j < 11 → w.cell? ⟨g, i * 11 + j, none⟩ = (cellVs (mkC (k0 + 11 * i)))[j]? := fun j hj => by
      have hil : i < (mkCs n k0).length := by rw [hl]; exact hi
      have e := flat_get cellVs 11 (fun _ => rfl) (mkCs n k0) i hil j hj
      rw [← a4, List.getElem?_take_of_lt (by omega), Array.getElem?_toList, ← getD_get dC hil, mkCs_get hi] at e
      rw [cellB hc, e]
    exact ⟨hx 0 (by omega), hx 1 (by omega), hx 2 (by omega), hx 3 (by omega), hx 4 (by omega), hx 5 (by omega), hx 6 (by omega), hx 7 (by omega), hx 8 (by omega), hx 9 (by omega), hx 10 (by omega)⟩
theorem CellIs.below {w w' : World} {g o : Nat} {x : C} (h : CellIs w g o x) (hg : g < w.heap.size) (k : Below w.heap.size w w') : CellIs w' g o x := by
  unfold CellIs at h ⊢
  have e : ∀ p, w'.cell? ⟨g, p, none⟩ = w.cell? ⟨g, p, none⟩ := fun p => k.cell (p := ⟨g, p, none⟩) hg
  simp only [e]
  exact h

set_option maxRecDepth 100000 in
set_option maxHeartbeats 2000000 in
theorem heldTblCellS_any (u : Value) (n k0 : Nat) (h0 : 0 < k0) (hb : k0 + 11 * n ≤ 99999990) (B : Nat) (w : World) (h : OwnC w B u (mkCs n k0)) :
    Calls Try.prog 93 #[u, .int .i64 k0] w fun e w' => e = .returned (.int .i64 ((k0 + 11 * n : Nat) : Int)) ∧ Below w.heap.size w w' := by
  obtain ⟨a, cap, rfl, hlen, hX⟩ := own_cells h
  have X := Hid.intro hX
  have hmx : Try.prog.follows .mixedOrders = true := by kernel_rfl
  clear h hX
  unfold maxLen at hlen
  go_enter Try.func93, Try.ntmps93
  go_wp2_with fail
  go_loopw [1, 5] (fun q i W => ∃ (k b : Nat), k ≤ n ∧ i = .int .i64 k ∧ q = .int .i64 b ∧ Hid (b = k0 + 11 * k) ∧ Hid (Below w.heap.size w W)) (fun _ i _ => n - (intOf i).toNat)
  case atStart => exact ⟨0, k0, Nat.zero_le _, rfl, rfl, rfl, Below.refl _ _⟩
  case round =>
    obtain ⟨k, b, hk, rfl, rfl, HE, HB⟩ := hrel
    by_cases hlt : k < n
    · obtain ⟨g, rfl, h1, h2, hgl, hI⟩ := X.out k hlt
      have hbb : 0 < b ∧ b ≤ 99999979 := by rw [HE.out]; omega
      rw [← HE.out] at hI
      have hgw : g < wr.heap.size := Nat.lt_of_lt_of_le hgl HB.out.size
      have HI := Hid.intro (hI.below hgl HB.out)
      have HM := Hid.intro (markText_big b hbb.1 (by omega))
      have HE2 : Hid (b + 11 = k0 + 11 * (k + 1)) := by show _ = _; rw [HE.out]; omega
      have q0 := HI.out.1
      unfold maxLen at h2
      have m0 := bw_cell (a := ⟨g, k * 11, none⟩) hgw q0
      have hne := bw_some wr
      have KM := Hid.intro (fun (p : BW wr) => bw_of (HM.out p.u))
      have hss : (mkC b).s = mt b := rfl
      rw [hss] at m0 q0
      clear HE hI HM hss q0
      generalize hmt : mt b = y at m0 KM
      clear hmt
      go_upto_region 4 with fail
      refine wp_region_quiet_below hmx (by kernel_rfl) ?_
      repeat (go_big_quiet_step (first | (go_at_call 42; refine KM.out _)))
      refine wpQuiet_nil ?_
      intro W9 hw'
      obtain ⟨⟨Wx, hW9⟩, hw''⟩ := hw'
      subst hw''
      have HB9 := Hid.intro (k_trans HB.out hW9)
      obtain ⟨_, l1, l2, l3, l4, l5, l6, l7, l8, l9, l10⟩ := HI.out.below hgw hW9
      replace l1 : W9.cell? ⟨g, k * 11 + 1, none⟩ = some (.int .i64 ((b : Int) + 1)) := l1
      replace l2 : W9.cell? ⟨g, k * 11 + 2, none⟩ = some (.int .i64 ((b : Int) + 2)) := l2
      replace l3 : W9.cell? ⟨g, k * 11 + 3, none⟩ = some (.int .i64 ((b : Int) + 3)) := l3
      replace l4 : W9.cell? ⟨g, k * 11 + 4, none⟩ = some (.int .i64 ((b : Int) + 4)) := l4
      replace l5 : W9.cell? ⟨g, k * 11 + 5, none⟩ = some (.int .i64 ((b : Int) + 5)) := l5
      replace l6 : W9.cell? ⟨g, k * 11 + 6, none⟩ = some (.int .i64 ((b : Int) + 6)) := l6
      replace l7 : W9.cell? ⟨g, k * 11 + 7, none⟩ = some (.int .i64 ((b : Int) + 7)) := l7
      replace l8 : W9.cell? ⟨g, k * 11 + 8, none⟩ = some (.int .i64 ((b : Int) + 8)) := l8
      replace l9 : W9.cell? ⟨g, k * 11 + 9, none⟩ = some (.int .i64 ((b : Int) + 9)) := l9
      replace l10 : W9.cell? ⟨g, k * 11 + 10, none⟩ = some (.int .i64 ((b : Int) + 10)) := l10
      clear m0 hne hW9 KM HI HB
      have ne1 : (((b : Int) + 1) != ((b : Int) + 1)) = false := by simp
      have ne2 : (((b : Int) + 2) != ((b : Int) + 2)) = false := by simp
      have ne3 : (((b : Int) + 3) != ((b : Int) + 3)) = false := by simp
      have ne4 : (((b : Int) + 4) != ((b : Int) + 4)) = false := by simp
      have ne5 : (((b : Int) + 5) != ((b : Int) + 5)) = false := by simp
      have ne6 : (((b : Int) + 6) != ((b : Int) + 6)) = false := by simp
      have ne7 : (((b : Int) + 7) != ((b : Int) + 7)) = false := by simp
      have ne8 : (((b : Int) + 8) != ((b : Int) + 8)) = false := by simp
      have ne9 : (((b : Int) + 9) != ((b : Int) + 9)) = false := by simp
      have ne10 : (((b : Int) + 10) != ((b : Int) + 10)) = false := by simp
      go_wp2
      go_roundw
      case rel => exact ⟨k + 1, b + 11, by omega, by go_num, by go_num, HE2, HB9⟩
      case measure => simp [intOf]; omega
    · obtain rfl : k = n := by omega
      have HE2 : Hid ((b : Int) = ((k0 + 11 * k : Nat) : Int)) := by show _ = _; rw [HE.out]
      clear HE
      go_wp2
      go_ret
      exact ⟨congrArg (fun x : Int => Ending.returned (Value.int .i64 x)) HE2.out, HB.out⟩
end Go.Proofs.Ytojogjlblgcioao
