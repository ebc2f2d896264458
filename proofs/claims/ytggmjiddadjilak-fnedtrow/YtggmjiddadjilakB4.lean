/-
  PROVED HERE: how a table that is owned changes where one cell's place in memory is written; how many cells a row has; facts for the texts on edits. Also: a table that is owned, behind a write into one place of one of its cells. Also: bounds of a table that is ok, as lists. Also: how far a table's marks count; what stays of owned tables and boxes where others are marked: for the laws on edits. Also: what slices.Clone answers of columns, rows and cells: the same ones, in memory of the call's own; nothing that was in memory is turned. Also: what the program's BrdOk answers at every border.
-/
import Derived.Test.YtggmjiddadjilakB3
import Derived.Test.YtggmjiddadjilakB1
import Derived.Test.YtggmjiddadjilakB2
import Derived.WalkLawsBesides
import Derived.WalkSpells
import Derived.Deep.RegionWith
import Derived.Deep.QuietTactic
import Derived.BigQuiet
import Derived.Deep.Cut
import Derived.Laws.AppendOwn
import Derived.Lib.SliceRun
import Derived.Lib.Walk
import Derived.WalkKit
import Derived.Deep.LoopGhost
namespace Go.Proofs.Ytggmjiddadjilak
open Go.RowKit

/-- nothing -/
def zT : T := ⟨[], 0, 0, [], 0⟩
def cellsInV (t : T) (row : Int) : Int := if inB row 0 ((t.rows.length : Int) - 1) = true then ((t.rows.getD row.toNat dR).cells.length : Int) else -1
def hasB (t : T) (row at' : Int) : Bool := inB at' 0 (cellsInV t row - 1)
theorem hasB_iff {t : T} {row at' : Int} : hasB t row at' = true ↔ ∃ r a : Nat, row = r ∧ at' = a ∧ r < t.rows.length ∧ a < (t.rows.getD r dR).cells.length := by
  unfold hasB cellsInV
  constructor
  · intro h
    simp only [inB, decide_eq_true_eq] at h
    split at h
    · rename_i h1
      refine ⟨row.toNat, at'.toNat, by omega, by omega, by omega, by omega⟩
    · omega
  · rintro ⟨r, a, rfl, rfl, h1, h2⟩
    rw [if_pos (inB_true (by omega) (by omega)), Int.toNat_natCast]
    exact inB_true (by omega) (by omega)
/-- one row's cells others -/
def setRow (t : T) (r : Nat) (cs : List C) : T := ⟨t.cols, t.head, t.foot, t.rows.set r ⟨cs, (t.rows.getD r dR).whole⟩, t.gap⟩

theorem OwnC.put {w : World} {B : Nat} {g cap : Nat} {cs : List C} (h : OwnC w B (.slice (some ⟨g, 0, none⟩) cs.length cap) cs) {a j : Nat} (ha : a < cs.length) (hj : j < 11) {x : C} {v : Value} (hx : cellVs x = (cellVs cs[a]).set j v) :
    OwnC (w.setCell ⟨g, a * 11 + j, none⟩ v) B (.slice (some ⟨g, 0, none⟩) cs.length cap) (cs.set a x) := by
  rcases h.2 with ⟨e, _⟩ | ⟨g', cap', cur, e, hg, hc, a1, a2, a3, a4⟩
  · simp at e
  · simp only [Value.slice.injEq, Option.some.injEq, Addr.mk.injEq, and_true, true_and] at e
    obtain ⟨rfl, rfl⟩ := e
    refine ⟨flat_len cellVs 11 (fun _ => rfl) _, .inr ⟨g, cap, cur.setIfInBounds (a * 11 + j) v, by rw [List.length_set], hg, setB hc _, by rw [List.length_set]; exact a1, a2, by rw [Array.size_setIfInBounds]; exact a3, ?_⟩⟩
    refine flat_take cellVs 11 (fun _ => rfl) (cs.set a x) (cur.setIfInBounds (a * 11 + j) v) (by rw [List.length_set, Array.size_setIfInBounds, a3]; omega) (fun i hi0 m hm => ?_)
    have hi : i < cs.length := by rw [List.length_set] at hi0; exact hi0
    have hold : cur[i * 11 + m]? = (cellVs cs[i])[m]? := by
      have e := flat_get cellVs 11 (fun _ => rfl) cs i hi m hm
      rw [← a4, List.getElem?_take_of_lt (by omega), Array.getElem?_toList] at e
      exact e
    by_cases hia : i = a
    · subst hia
      rw [List.getElem_set_self, hx]
      by_cases hmj : m = j
      · subst hmj
        rw [Array.getElem?_setIfInBounds_self_of_lt (by rw [a3]; omega), List.getElem?_set_self (by show m < 11; exact hm)]
      · rw [Array.getElem?_setIfInBounds_ne (by omega), List.getElem?_set_ne (by omega)]
        exact hold
    · rw [List.getElem_set_ne (by omega), Array.getElem?_setIfInBounds_ne (by omega)]
      exact hold
/-- one row of a table that is owned: its cells others, in their block -/
theorem OwnR.upd {w w1 : World} {base : Nat} {v : Value} {ur : List (Value × R)} (h : OwnR w base v ur) {i : Nat} {p : Value × R} (hi : ur[i]? = some p) {r : R} (hw : r.whole = p.2.whole) (hc : OwnC w1 base p.1 r.cells) (k : w.grownBy w1 p.1.ownBlock) : OwnR w1 base v (ur.set i (p.1, r)) := by
  have hil : i < ur.length := (List.getElem?_eq_some_iff.1 hi).1
  have ep : ur[i] = p := by rw [List.getElem?_eq_getElem hil] at hi; exact Option.some.inj hi
  have hpm : p ∈ ur := List.mem_of_getElem? hi
  have K1 : Off 0 none p.1.ownBlock w w1 := Off.grown k
  have hnn : ∀ u : Value, u.ownBlock = none ∨ u.ownBlock ≠ none := fun u => by rcases hb : u.ownBlock with _ | b; exact .inl rfl; exact .inr (by simp)
  have hne : v.ownBlock = none ∨ v.ownBlock ≠ p.1.ownBlock := row_ne h.own (h.cells p hpm) (by decide)
  have h1 := row_off h.own K1 (Nat.zero_le _) (hnn v) hne
  have hfst : ∀ j, (hj : j < ur.length) → ((ur.set i (p.1, r))[j]'(by rw [List.length_set]; exact hj)).1 = ur[j].1 := fun j hj => by
    by_cases hji : j = i
    · subst hji
      rw [List.getElem_set_self, ep]
    · rw [List.getElem_set_ne (by omega)]
  have hfl : (ur.set i (p.1, r)).flatMap rowVs = ur.flatMap rowVs := by
    apply List.ext_getElem?
    intro q
    have l1 := flat_len rowVs 2 (fun _ => rfl) (ur.set i (p.1, r))
    have l2 := flat_len rowVs 2 (fun _ => rfl) ur
    rw [List.length_set] at l1
    by_cases hq : q < ur.length * 2
    · have e : q = q / 2 * 2 + q % 2 := by omega
      have b1 := flat_get rowVs 2 (fun _ => rfl) (ur.set i (p.1, r)) (q / 2) (by rw [List.length_set]; omega) (q % 2) (by omega)
      have b2 := flat_get rowVs 2 (fun _ => rfl) ur (q / 2) (by omega) (q % 2) (by omega)
      rw [← e] at b1 b2
      rw [b1, b2]
      by_cases hji : q / 2 = i
      · subst hji
        rw [List.getElem_set_self, ep, rowVs, rowVs, hw]
      · rw [List.getElem_set_ne (by omega)]
    · rw [List.getElem?_eq_none (by omega), List.getElem?_eq_none (by omega)]
  refine ⟨?_, fun q hq => ?_, ?_⟩
  · rw [hfl, List.length_set]
    exact h1
  · obtain ⟨j, hj0, rfl⟩ := List.mem_iff_getElem.1 hq
    have hj : j < ur.length := by rw [List.length_set] at hj0; exact hj0
    by_cases hji : j = i
    · subst hji
      rw [List.getElem_set_self]
      exact hc
    · rw [List.getElem_set_ne (by omega)]
      have hap : ur[j].1.ownBlock = none ∨ ur[j].1.ownBlock ≠ p.1.ownBlock := by
        have hp := List.pairwise_iff_getElem.1 h.apart
        rcases Nat.lt_or_gt_of_ne hji with hl | hl
        · rw [← ep]; exact hp j i hj hil hl
        · have := hp i j hil hj hl
          rw [ep] at this
          rcases hb : ur[j].1.ownBlock with _ | b
          · exact .inl rfl
          · refine .inr (fun e => ?_)
            rcases this with e1 | e1
            · rw [e1] at e; cases e
            · exact e1 (e.symm.trans hb.symm)
      exact row_off (h.cells _ (List.getElem_mem hj)) K1 (Nat.zero_le _) (hnn _) hap
  · rw [List.pairwise_iff_getElem]
    have hp := List.pairwise_iff_getElem.1 h.apart
    intro a b ha0 hb0 hab
    have ha : a < ur.length := by rw [List.length_set] at ha0; exact ha0
    have hb : b < ur.length := by rw [List.length_set] at hb0; exact hb0
    rw [hfst a ha, hfst b hb]
    exact hp a b ha hb hab
theorem OwnC.atM {w : World} {base : Nat} {u : Value} {cs : List C} (h : OwnC w base u cs) (hs : ∀ x ∈ cs, x.s.size ≤ maxLen) : CellsAt w base u cs := by
  rcases h.2 with ⟨rfl, hn⟩ | ⟨g, cap, cur, rfl, hg, hc, h1, h2, _⟩
  · exact ⟨none, 0, by rw [hn], by omega, by unfold maxLen; omega, fun i hi => by omega⟩
  · refine ⟨_, cap, rfl, h1, h2, fun i hi => ⟨g, 0, rfl, (Array.getElem?_eq_some_iff.1 hc).1, hg, ?_, ?_⟩⟩
    · have hx : ∀ j, j < 11 → w.cell? ⟨g, i * 11 + j, none⟩ = (cellVs cs[i])[j]? := fun j hj => by
        have e := flat_get cellVs 11 (fun _ => rfl) cs i hi j hj
        rw [row_cell h (u := (cellVs cs[i])[j]'(by show j < 11; exact hj)) (by rw [e]; simp)]
        simp
      rw [getD_get dC hi, Nat.zero_add]
      exact ⟨hx 0 (by omega), hx 1 (by omega), hx 2 (by omega), hx 3 (by omega), hx 4 (by omega), hx 5 (by omega), hx 6 (by omega), hx 7 (by omega), hx 8 (by omega), hx 9 (by omega), hx 10 (by omega)⟩
    · rw [getD_get dC hi]
      exact hs _ (List.getElem_mem hi)
theorem OwnR.atM {w : World} {base : Nat} {v : Value} {ur : List (Value × R)} (h : OwnR w base v ur) (hs : ∀ p ∈ ur, ∀ x ∈ p.2.cells, x.s.size ≤ maxLen) : RowsAt w base v (ur.map (·.2)) := by
  have hl : (ur.map (·.2)).length = ur.length := by simp
  rcases h.own.2 with ⟨rfl, hn⟩ | ⟨g, cap, cur, rfl, hg, hc, h1, h2, _⟩
  · exact ⟨none, 0, by rw [hl, hn], by rw [hl]; omega, by unfold maxLen; omega, fun i hi => by rw [hl] at hi; omega⟩
  · refine ⟨_, cap, by rw [hl], by rw [hl]; exact h1, h2, fun i hi => ⟨g, 0, rfl, (Array.getElem?_eq_some_iff.1 hc).1, hg, ?_⟩⟩
    rw [hl] at hi
    have hx : ∀ j, j < 2 → w.cell? ⟨g, i * 2 + j, none⟩ = (rowVs ur[i])[j]? := fun j hj => by
      have e := flat_get rowVs 2 (fun _ => rfl) ur i hi j hj
      rw [row_cell h.own (u := (rowVs ur[i])[j]'(by show j < 2; exact hj)) (by rw [e]; simp)]
      simp
    have hm := List.getElem_mem hi
    dsimp only
    rw [getD_get dR (by rw [hl]; exact hi), Nat.zero_add, List.getElem_map]
    exact ⟨ur[i].1, hx 0 (by omega), hx 1 (by omega), (h.cells _ hm).atM (hs _ hm)⟩
/-- no text is too long to be one -/
def TxM (t : T) : Prop := ∀ r ∈ t.rows, ∀ x ∈ r.cells, x.s.size ≤ maxLen
theorem OwnT.cols {w : World} {base : Nat} {vc vr : Value} {t : T} (h : OwnT w base vc vr t) : ColsAt w base vc t.cols := by
  obtain ⟨_, _, a, _⟩ := h
  exact a.at
theorem OwnT.rows {w : World} {base : Nat} {vc vr : Value} {t : T} (h : OwnT w base vc vr t) (hs : TxM t) : RowsAt w base vr t.rows := by
  obtain ⟨ur, e, _, b⟩ := h
  rw [← e]
  exact b.atM (fun p hp => hs p.2 (by rw [← e]; exact List.mem_map_of_mem hp))
theorem OwnT.kept {w w' : World} {base : Nat} {vc vr : Value} {t : T} (h : OwnT w base vc vr t) (k : Below w.heap.size w w') : OwnT w' base vc vr t := h.since (.of_below k)
theorem txM_at {w : World} {z : Nat} {v : Value} {rs : List R} (h : RowsAt w z v rs) : ∀ r ∈ rs, ∀ x ∈ r.cells, x.s.size ≤ maxLen := by
  intro r hr x hx
  obtain ⟨i, hi, rfl⟩ := List.mem_iff_getElem.1 hr
  obtain ⟨_, _, _, _, _, _, _, u, _, _, hc⟩ := At.get h hi
  rw [getD_get dR hi] at hc
  obtain ⟨j, hj, rfl⟩ := List.mem_iff_getElem.1 hx
  obtain ⟨_, _, _, _, _, _, _, _, hs⟩ := At.get hc hj
  rw [getD_get dC hj] at hs
  exact hs
end Go.Proofs.Ytggmjiddadjilak
namespace Go.Proofs.Ytggmjiddadjilak
open Go.RowKit

theorem OwnD.put {w W9 : World} {B D : Nat} {vc vr : Value} {cols : List (Int × Int)} {ur : List (Value × R)} (h : OwnD w B D vc vr cols ur) (hb : Below w.heap.size w W9) {r a j : Nat} {p : Value × R} (hp : ur[r]? = some p) {g cap : Nat} (hpv : p.1 = .slice (some ⟨g, 0, none⟩) p.2.cells.length cap) (ha : a < p.2.cells.length) (hj : j < 11) {x : C} {v : Value} (hx : cellVs x = (cellVs p.2.cells[a]).set j v) :
    OwnD (W9.setCell ⟨g, a * 11 + j, none⟩ v) B D vc vr cols (ur.set r (p.1, ⟨p.2.cells.set a x, p.2.whole⟩)) := by
  have h9 := h.kept hb
  have hpm : p ∈ ur := List.mem_of_getElem? hp
  have hC := h9.2.1.cells p hpm
  rw [hpv] at hC
  have hC2 := OwnC.put hC ha hj hx
  have hG : W9.grownBy (W9.setCell ⟨g, a * 11 + j, none⟩ v) p.1.ownBlock := by rw [hpv]; exact grown_set (grown_refl _ _) rfl _
  have hR := h9.2.1.upd hp (r := ⟨p.2.cells.set a x, p.2.whole⟩) rfl (by rw [hpv]; simpa [OwnC] using hC2) hG
  refine ⟨?_, hR, h.2.2.1, h.2.2.2.1, fun q hq b e => ?_⟩
  · have hne := row_ne h9.1 (h9.2.1.cells p hpm) (by decide)
    exact row_off h9.1 (Off.grown (b1 := none) (n := 0) hG) (Nat.zero_le _) (by rcases hb : vc.ownBlock with _ | b; exact .inl rfl; exact .inr (by simp)) hne
  · rcases List.mem_or_eq_of_mem_set hq with hm | rfl
    · exact h.2.2.2.2 q hm b e
    · exact h.2.2.2.2 p hpm b e
/-- two writes into two places of one cell -/
theorem OwnD.put2 {w W9 : World} {B D : Nat} {vc vr : Value} {cols : List (Int × Int)} {ur : List (Value × R)} (h : OwnD w B D vc vr cols ur) (hb : Below w.heap.size w W9) {r a i j : Nat} {p : Value × R} (hp : ur[r]? = some p) {g cap : Nat} (hpv : p.1 = .slice (some ⟨g, 0, none⟩) p.2.cells.length cap) (ha : a < p.2.cells.length) (hi : i < 11) (hj : j < 11) {x y : C} {u v : Value} (hx : cellVs x = (cellVs p.2.cells[a]).set i u) (hy : cellVs y = (cellVs x).set j v) :
    OwnD ((W9.setCell ⟨g, a * 11 + i, none⟩ u).setCell ⟨g, a * 11 + j, none⟩ v) B D vc vr cols (ur.set r (p.1, ⟨p.2.cells.set a y, p.2.whole⟩)) := by
  have hrl : r < ur.length := (List.getElem?_eq_some_iff.1 hp).1
  have h1 := h.put hb hp hpv ha hi hx
  have h2 := h1.put (Below.refl _ _) (r := r) (a := a) (p := (p.1, ⟨p.2.cells.set a x, p.2.whole⟩)) (by rw [List.getElem?_set_self hrl]) (by rw [List.length_set]; exact hpv) (by rw [List.length_set]; exact ha) hj (x := y) (v := v) (by rw [hy]; simp)
  simpa using h2
/-- it stays where one block that is not its own is turned -/
theorem OwnD.other {W W' : World} {B D n : Nat} {vc vr : Value} {cols : List (Int × Int)} {ur : List (Value × R)} (h : OwnD W B D vc vr cols ur) (hn : D ≤ n) (hk : ∀ k, k ≠ n → W'.heap[k]? = W.heap[k]?) : OwnD W' B D vc vr cols ur := by
  obtain ⟨h1, h2, h3, h4, h5⟩ := h
  have key : ∀ {e : TypeId} {sz : Nat} {v : Value} {m : Nat} {xs : List Value}, W.ownsRow B e sz v m xs → (∀ b, v.ownBlock = some b → b < D) → W'.ownsRow B e sz v m xs := fun h hv => by
    refine ⟨h.1, h.2.elim Or.inl (fun ⟨g, cap, cur, e, hg, hc, q⟩ => Or.inr ⟨g, cap, cur, e, hg, ?_, q⟩)⟩
    have hgD : g < D := hv g (by rw [e]; rfl)
    exact (hk g (by omega)).trans hc
  exact ⟨key h1 h3, ⟨key h2.own h4, fun p hp => key (h2.cells p hp) (h5 p hp), h2.apart⟩, h3, h4, h5⟩
theorem below_other {w W W' : World} (h : Below w.heap.size w W) {n : Nat} (hn : w.heap.size ≤ n) (hk : ∀ k, k ≠ n → W'.heap[k]? = W.heap[k]?) (hs : W'.heap.size = W.heap.size) (ho : W'.os = W.os) (ht : W'.tape = W.tape) (hu : W'.output = W.output) : Below w.heap.size w W' :=
  ⟨ho.trans h.os, ht.trans h.tape, hu.trans h.output, by rw [hs]; exact h.size, fun k h1 => (hk k (by omega)).trans (h.block k h1)⟩
/-- a row's cells, as an owned table has them -/
theorem own_row {w : World} {B : Nat} {vr : Value} {ur : List (Value × R)} (h : OwnR w B vr ur) {r : Nat} {p : Value × R} (hp : ur[r]? = some p) {a : Nat} (ha : a < p.2.cells.length) : ∃ g cap cur, p.1 = .slice (some ⟨g, 0, none⟩) p.2.cells.length cap ∧ w.heap[g]? = some (.cells cur 58) ∧ p.2.cells.length ≤ cap ∧ cap ≤ maxLen ∧ cur.size = cap * 11 := by
  rcases (h.cells p (List.mem_of_getElem? hp)).2 with ⟨_, e⟩ | ⟨g, cap, cur, e, hg, hc, a1, a2, a3, _⟩
  · omega
  · exact ⟨g, cap, cur, e, hc, a1, a2, a3⟩
theorem map_set_snd (ur : List (Value × R)) (r : Nat) (q : Value × R) : (ur.set r q).map (·.2) = (ur.map (·.2)).set r q.2 := by simp
theorem own_lt {w : World} {B D : Nat} {vc vr : Value} {cols : List (Int × Int)} {ur : List (Value × R)} (h : OwnD w B D vc vr cols ur) {t : T} (hc : t.cols = cols) (hr : ur.map (·.2) = t.rows) : OwnT w B vc vr t := ⟨ur, hr, by rw [hc]; exact h.1, h.2.1⟩
end Go.Proofs.Ytggmjiddadjilak
namespace Go.Proofs.Ytggmjiddadjilak
open Go.RowKit

/-- bounds of a table that is ok -/
theorem tbl_bounds {t : T} (h : tblB t = true) : t.cols.length ≤ 8 ∧ 1 ≤ t.rows.length ∧ t.rows.length ≤ 8 ∧ ∀ i, i < t.rows.length → (t.rows.getD i dR).cells.length ≤ 5 := by
  simp only [tblB, colsB, inB, Bool.and_eq_true, decide_eq_true_eq, List.all_eq_true] at h
  obtain ⟨h1, _, _, ⟨h4, _⟩, h5⟩ := h
  refine ⟨h4, by omega, by omega, fun i hi => ?_⟩
  have := h5 _ (List.getElem_mem hi)
  rw [getD_get dR hi]
  simp only [rowB, Bool.and_eq_true, decide_eq_true_eq] at this
  exact this.1
end Go.Proofs.Ytggmjiddadjilak
namespace Go.Proofs.Ytggmjiddadjilak
open Go.RowKit

theorem kAt_tot (rs : List R) (k : Nat) : ∀ i, i ≤ rs.length → kAt rs k i ≤ k + 11 * (i + rwTo rs i)
  | 0, _ => by show k ≤ _; omega
  | i + 1, h => by
    have ih := kAt_tot rs k i (by omega)
    have e := rwTo_succ (show i < rs.length by omega)
    have e2 := totC_eq (rs.getD i dR).cells
    show kAt rs k i + 11 * (rs.getD i dR).cells.length + 1 ≤ _
    omega
theorem kEnd_tot {cols : List (Int × Int)} {ur : List (Value × R)} {t : T} (hc : cols = t.cols) (hu : ur.map (·.2) = t.rows) (h : totT t ≤ 1048576) : kEnd cols ur ≤ 99999990 := by
  have hl : ur.length = t.rows.length := by rw [← hu, List.length_map]
  have h1 := kAt_tot t.rows (1 + 2 * cols.length) t.rows.length (Nat.le_refl _)
  have h2 := totR_eq t.rows
  unfold kEnd
  rw [hu, hl]
  unfold totT at h
  rw [hc] at h1 ⊢
  omega
/-- a table of few rows and cells -/
structure SmT (t : T) : Prop where
  cols : t.cols.length ≤ 8
  rows : t.rows.length ≤ 9
  cells : ∀ i, i < t.rows.length → (t.rows.getD i dR).cells.length ≤ 6
theorem kAt_sm {rs : List R} (h : ∀ i, i < rs.length → (rs.getD i dR).cells.length ≤ 6) (k : Nat) : ∀ i, i ≤ rs.length → kAt rs k i ≤ k + 67 * i
  | 0, _ => by show k ≤ _; omega
  | i + 1, hi => by
    have ih := kAt_sm h k i (by omega)
    have e := h i (by omega)
    show kAt rs k i + 11 * (rs.getD i dR).cells.length + 1 ≤ _
    omega
theorem kEnd_sm {cols : List (Int × Int)} {ur : List (Value × R)} {t : T} (hc : cols = t.cols) (hu : ur.map (·.2) = t.rows) (h : SmT t) : kEnd cols ur ≤ 99999990 := by
  have hl : ur.length = t.rows.length := by rw [← hu, List.length_map]
  have h1 := kAt_sm h.cells (1 + 2 * cols.length) t.rows.length (Nat.le_refl _)
  have h2 := h.cols
  have h3 := h.rows
  unfold kEnd
  rw [hu, hl]
  rw [hc] at h1 ⊢
  omega
theorem smT_ok {t : T} (h : tblB t = true) : SmT t := by
  obtain ⟨h1, _, h3, h4⟩ := tbl_bounds h
  exact ⟨h1, by omega, fun i hi => by have := h4 i hi; omega⟩
theorem smT_z : SmT zT := ⟨by decide, by decide, fun i hi => absurd hi (Nat.not_lt_zero _)⟩
theorem txM_z : TxM zT := fun r hr => absurd hr (by simp [zT])
theorem smT_set {t : T} (h : SmT t) {r : Nat} {cs : List C} (hc : cs.length ≤ 6) : SmT (setRow t r cs) := by
  refine ⟨h.cols, by rw [setRow, List.length_set]; exact h.rows, fun i hi => ?_⟩
  rw [setRow, List.length_set] at hi
  show ((t.rows.set r ⟨cs, (t.rows.getD r dR).whole⟩).getD i dR).cells.length ≤ 6
  by_cases e : r = i
  · subst e
    simp [List.getD, hi]
    exact hc
  · have := h.cells i hi
    simp [List.getD, e, hi] at this ⊢
    exact this
theorem txM_set {t : T} (h : TxM t) {r : Nat} {cs : List C} (hc : ∀ x ∈ cs, x.s.size ≤ maxLen) : TxM (setRow t r cs) := by
  intro q hq x hx
  rcases List.mem_or_eq_of_mem_set hq with hm | rfl
  · exact h q hm x hx
  · exact hc x hx
theorem Out.kept {w W W' : World} {n B D : Nat} (h : Below n w W) (k : Out B D W W') (hn : n ≤ B) : Below n w W' := h.trans (k.below.mono hn)
theorem Out.box {W W' : World} {B D b : Nat} {o : Obj} (h : W.heap[b]? = some o) (k : Out B D W W') (hd : b < B ∨ D ≤ b) : W'.heap[b]? = some o := by
  rcases hd with hd | hd
  · exact (k.below.block b hd).trans h
  · exact (k.block b hd (Array.getElem?_eq_some_iff.1 h).1).trans h
theorem box_kept {W W' : World} {b : Nat} {o : Obj} (h : W.heap[b]? = some o) (k : Below W.heap.size W W') : W'.heap[b]? = some o := (k.block b (Array.getElem?_eq_some_iff.1 h).1).trans h
/-- an owned table lies in memory -/
theorem OwnD.tbl {w : World} {B D : Nat} {vc vr : Value} {t : T} {ur : List (Value × R)} (h : OwnD w B D vc vr t.cols ur) (hu : ur.map (·.2) = t.rows) (hs : TxM t) : TblAt w B (.agg #[vc, .int .i64 t.head, .int .i64 t.foot, vr, .int .i64 t.gap]) t :=
  ⟨vc, vr, rfl, h.1.at, by rw [← hu]; exact h.2.1.atM (fun p hp => hs p.2 (by rw [← hu]; exact List.mem_map_of_mem hp))⟩
end Go.Proofs.Ytggmjiddadjilak
namespace Go.Proofs.Ytggmjiddadjilak
open Go.RowKit Go.Lib

theorem infoColn : (Try.prog.info? 52).map (fun i => (i.zero, i.size, i.bytes)) = some (some (Value.agg #[.int .i64 0, .int .i64 0]), 2, 16) := by kernel_rfl
set_option maxRecDepth 100000 in
set_option maxHeartbeats 2000000 in
theorem cloneCol (a : Option Addr) (n cap : Nat) (news : List Value) (hl : news.length = n * 2) (hn : n ≤ 1048576) (h1 : ∀ u ∈ news, u.oneCell' = true) (ha : n ≠ 0 → a ≠ none) (w : World)
    (hc : ∀ p, a = some p → ∀ j u, news[j]? = some u → w.cell? (p.add j) = some u) :
    Calls Try.prog 32 #[.slice a n cap] w fun e w' => ∃ v', e = .returned v' ∧ w'.ownsRow w.heap.size 52 2 v' n news ∧ Below w.heap.size w w' := by
  rcases a with _ | p
  · obtain rfl : n = 0 := by
      rcases Nat.eq_zero_or_pos n with h | h
      · exact h
      · exact absurd rfl (ha (by omega))
    obtain rfl : news = [] := List.length_eq_zero_iff.1 (by omega)
    have hq : ∀ (w : World), (binOp .eql 23 (.slice none 0 cap) (.slice none 0 0)).run Try.prog w = .ok (.bool true) w := fun w => Lib.run_eql_slice_nil w _ _ none 0 cap 0 0 Try.underlying23
    go_enter Try.func32, Try.ntmps32
    go_wp2
    go_ret
    exact ⟨_, rfl, ⟨rfl, .inl ⟨rfl, rfl⟩⟩, Below.refl _ _⟩
  · obtain ⟨i0, hi0, hz0, hz1, hz2⟩ := info_parts infoColn
    have hq : ∀ (w : World), (binOp .eql 23 (.slice (some p) n cap) (.slice none 0 0)).run Try.prog w = .ok (.bool false) w := fun w => Lib.run_eql_slice_nil w _ _ (some p) n cap 0 0 Try.underlying23
    have HC := Hid.intro (hc p rfl)
    clear hc
    go_enter Try.func32, Try.ntmps32
    go_wp2_with (at_builtin; refine wpList_append_own _ rfl _ _ 23 rfl w.heap.size 52 i0 _ 2 16 Try.underlying23 hi0 hz0 hz1 hz2 rfl (by decide) _ _ _ rfl (World.ownsRow_made w #[] 0 (Nat.le_refl _) (Nat.zero_le _) (by simp)) p n cap news rfl hl ?qc2 h1 ?qc4 ?qc5 ?qc6 ?_)
    case qc2 =>
      intro j u hj
      exact Lib.cell?_alloc_some _ (HC.out j u hj)
    case qc4 => rw [Nat.zero_add]; unfold maxLen; omega
    case qc5 => rw [Nat.zero_add]; omega
    case qc6 => simp
    intro v' w1 hown hgrow hnil
    go_wp2
    go_ret
    exact ⟨v', rfl, by simpa using hown, ((Below.refl _ w).alloc (Nat.le_refl _) _).grown hgrow (by simp) (by intro k hk; simp [Value.ownBlock] at hk; omega)⟩

theorem infoRown : (Try.prog.info? 37).map (fun i => (i.zero, i.size, i.bytes)) = some (some (Value.agg #[.slice none 0 0, .bool false]), 2, 32) := by kernel_rfl
set_option maxRecDepth 100000 in
set_option maxHeartbeats 2000000 in
theorem cloneRow (a : Option Addr) (n cap : Nat) (news : List Value) (hl : news.length = n * 2) (hn : n ≤ 1048576) (h1 : ∀ u ∈ news, u.oneCell' = true) (ha : n ≠ 0 → a ≠ none) (w : World)
    (hc : ∀ p, a = some p → ∀ j u, news[j]? = some u → w.cell? (p.add j) = some u) :
    Calls Try.prog 33 #[.slice a n cap] w fun e w' => ∃ v', e = .returned v' ∧ w'.ownsRow w.heap.size 37 2 v' n news ∧ Below w.heap.size w w' := by
  rcases a with _ | p
  · obtain rfl : n = 0 := by
      rcases Nat.eq_zero_or_pos n with h | h
      · exact h
      · exact absurd rfl (ha (by omega))
    obtain rfl : news = [] := List.length_eq_zero_iff.1 (by omega)
    have hq : ∀ (w : World), (binOp .eql 24 (.slice none 0 cap) (.slice none 0 0)).run Try.prog w = .ok (.bool true) w := fun w => Lib.run_eql_slice_nil w _ _ none 0 cap 0 0 Try.underlying24
    go_enter Try.func33, Try.ntmps33
    go_wp2
    go_ret
    exact ⟨_, rfl, ⟨rfl, .inl ⟨rfl, rfl⟩⟩, Below.refl _ _⟩
  · obtain ⟨i0, hi0, hz0, hz1, hz2⟩ := info_parts infoRown
    have hq : ∀ (w : World), (binOp .eql 24 (.slice (some p) n cap) (.slice none 0 0)).run Try.prog w = .ok (.bool false) w := fun w => Lib.run_eql_slice_nil w _ _ (some p) n cap 0 0 Try.underlying24
    have HC := Hid.intro (hc p rfl)
    clear hc
    go_enter Try.func33, Try.ntmps33
    go_wp2_with (at_builtin; refine wpList_append_own _ rfl _ _ 24 rfl w.heap.size 37 i0 _ 2 32 Try.underlying24 hi0 hz0 hz1 hz2 rfl (by decide) _ _ _ rfl (World.ownsRow_made w #[] 0 (Nat.le_refl _) (Nat.zero_le _) (by simp)) p n cap news rfl hl ?qc2 h1 ?qc4 ?qc5 ?qc6 ?_)
    case qc2 =>
      intro j u hj
      exact Lib.cell?_alloc_some _ (HC.out j u hj)
    case qc4 => rw [Nat.zero_add]; unfold maxLen; omega
    case qc5 => rw [Nat.zero_add]; omega
    case qc6 => simp
    intro v' w1 hown hgrow hnil
    go_wp2
    go_ret
    exact ⟨v', rfl, by simpa using hown, ((Below.refl _ w).alloc (Nat.le_refl _) _).grown hgrow (by simp) (by intro k hk; simp [Value.ownBlock] at hk; omega)⟩

theorem infoCelln : (Try.prog.info? 58).map (fun i => (i.zero, i.size, i.bytes)) = some (some (Value.agg #[.string ⟨#[]⟩, .int .i64 0, .int .i64 0, .int .i64 0, .int .i64 0, .int .i64 0, .int .i64 0, .int .i64 0, .int .i64 0, .int .i64 0, .int .i64 0]), 11, 96) := by kernel_rfl
set_option maxRecDepth 100000 in
set_option maxHeartbeats 2000000 in
theorem cloneCell (a : Option Addr) (n cap : Nat) (news : List Value) (hl : news.length = n * 11) (hn : n ≤ 1048576) (h1 : ∀ u ∈ news, u.oneCell' = true) (ha : n ≠ 0 → a ≠ none) (w : World)
    (hc : ∀ p, a = some p → ∀ j u, news[j]? = some u → w.cell? (p.add j) = some u) :
    Calls Try.prog 34 #[.slice a n cap] w fun e w' => ∃ v', e = .returned v' ∧ w'.ownsRow w.heap.size 58 11 v' n news ∧ Below w.heap.size w w' := by
  rcases a with _ | p
  · obtain rfl : n = 0 := by
      rcases Nat.eq_zero_or_pos n with h | h
      · exact h
      · exact absurd rfl (ha (by omega))
    obtain rfl : news = [] := List.length_eq_zero_iff.1 (by omega)
    have hq : ∀ (w : World), (binOp .eql 35 (.slice none 0 cap) (.slice none 0 0)).run Try.prog w = .ok (.bool true) w := fun w => Lib.run_eql_slice_nil w _ _ none 0 cap 0 0 Try.underlying35
    go_enter Try.func34, Try.ntmps34
    go_wp2
    go_ret
    exact ⟨_, rfl, ⟨rfl, .inl ⟨rfl, rfl⟩⟩, Below.refl _ _⟩
  · obtain ⟨i0, hi0, hz0, hz1, hz2⟩ := info_parts infoCelln
    have hq : ∀ (w : World), (binOp .eql 35 (.slice (some p) n cap) (.slice none 0 0)).run Try.prog w = .ok (.bool false) w := fun w => Lib.run_eql_slice_nil w _ _ (some p) n cap 0 0 Try.underlying35
    have HC := Hid.intro (hc p rfl)
    clear hc
    go_enter Try.func34, Try.ntmps34
    go_wp2_with (at_builtin; refine wpList_append_own _ rfl _ _ 35 rfl w.heap.size 58 i0 _ 11 96 Try.underlying35 hi0 hz0 hz1 hz2 rfl (by decide) _ _ _ rfl (World.ownsRow_made w #[] 0 (Nat.le_refl _) (Nat.zero_le _) (by simp)) p n cap news rfl hl ?qc2 h1 ?qc4 ?qc5 ?qc6 ?_)
    case qc2 =>
      intro j u hj
      exact Lib.cell?_alloc_some _ (HC.out j u hj)
    case qc4 => rw [Nat.zero_add]; unfold maxLen; omega
    case qc5 => rw [Nat.zero_add]; omega
    case qc6 => simp
    intro v' w1 hown hgrow hnil
    go_wp2
    go_ret
    exact ⟨v', rfl, by simpa using hown, ((Below.refl _ w).alloc (Nat.le_refl _) _).grown hgrow (by simp) (by intro k hk; simp [Value.ownBlock] at hk; omega)⟩
end Go.Proofs.Ytggmjiddadjilak
namespace Go.Proofs.Ytggmjiddadjilak
open Go.RowKit

set_option maxRecDepth 100000 in
set_option maxHeartbeats 400000 in
theorem implBrdOk (a b : Int) (w : World) :
    Calls Try.prog 50 #[.agg #[.int .i64 a, .int .i64 b]] w fun e w' => e = .returned (.bool (brdOkB a b)) ∧ w' = w.alloc (.cells #[.int .i64 a, .int .i64 b] 56) := by
  by_cases h0 : a = 0
  · subst h0
    go_enter Try.func50, Try.ntmps50
    go_wp2
    go_ret
    exact ⟨retB (brd_zero b).symm, rfl⟩
  by_cases h4 : a = 4
  · subst h4
    go_enter Try.func50, Try.ntmps50
    go_wp2
    go_ret
    exact ⟨retB (brd_four b).symm, rfl⟩
  by_cases h1 : a = 1
  · subst h1
    go_enter Try.func50, Try.ntmps50
    go_wp2_with (go_at_call 18; refine (within_any _ _ _ _).mono ?_; rintro e w' ⟨rfl, rfl⟩)
    go_ret
    exact ⟨retB (brd_seen b (by omega) (by omega)).symm, rfl⟩
  by_cases h2 : a = 2
  · subst h2
    go_enter Try.func50, Try.ntmps50
    go_wp2_with (go_at_call 18; refine (within_any _ _ _ _).mono ?_; rintro e w' ⟨rfl, rfl⟩)
    go_ret
    exact ⟨retB (brd_seen b (by omega) (by omega)).symm, rfl⟩
  by_cases h3 : a = 3
  · subst h3
    go_enter Try.func50, Try.ntmps50
    go_wp2_with (go_at_call 18; refine (within_any _ _ _ _).mono ?_; rintro e w' ⟨rfl, rfl⟩)
    go_ret
    exact ⟨retB (brd_seen b (by omega) (by omega)).symm, rfl⟩
  have e0 : (a == 0) = false := beq_eq_false_iff_ne.2 h0
  have e1 : (a == 1) = false := beq_eq_false_iff_ne.2 h1
  have e2 : (a == 2) = false := beq_eq_false_iff_ne.2 h2
  have e3 : (a == 3) = false := beq_eq_false_iff_ne.2 h3
  have e4 : (a == 4) = false := beq_eq_false_iff_ne.2 h4
  have HB : Hid (brdOkB a b = false) := brd_other b h0 h4 (by omega)
  clear h0 h1 h2 h3 h4
  go_enter Try.func50, Try.ntmps50
  go_wp2
  go_ret
  exact ⟨retB HB.out.symm, rfl⟩
end Go.Proofs.Ytggmjiddadjilak
