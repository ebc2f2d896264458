/-
  PROVED HERE: columns and rows that are marked, as lists. Also: what the program's copyOf answers: of a table that is ok the same table, in memory of its own; else nothing and false; nothing that was in memory is turned. Also: an append to what is owned, whatever slice is put behind it; rows that are owned grow by one. Also: small facts on places of a grid, for the other texts of this claim. Also: what the program's reaches answers at every argument; nothing in memory is turned.
-/
import Derived.Test.YtggmjiddadjilalB20
import Derived.Test.YtggmjiddadjilalB15
import Derived.Test.YtggmjiddadjilalB12
import Derived.Test.YtggmjiddadjilalB4
import Derived.WalkLawsBesides
import Derived.WalkSpells
import Derived.Deep.RegionWith
import Derived.Deep.QuietTactic
import Derived.BigQuiet
import Derived.Deep.Cut
import Derived.Laws.AppendOwn
import Derived.Laws.OwnMore
namespace Go.Proofs.Ytggmjiddadjilal
open Go.RowKit

theorem grown_out {w w' : World} {r : Option Nat} {B D : Nat} (h : w.grownBy w' r) (hB : B ≤ w.heap.size) (hr : ∀ b, r = some b → B ≤ b ∧ b < D) : Out B D w w' :=
  ⟨⟨h.os, h.tape, h.output, h.size, fun k hk => h.block k (by omega) (fun e => by have := hr k e.symm; omega)⟩, fun k h1 h2 => h.block k h2 (fun e => by have := hr k e.symm; omega)⟩
theorem Out.trans {B D : Nat} {a b c : World} (h : Out B D a b) (k : Out B D b c) : Out B D a c :=
  ⟨h.below.trans k.below, fun i h1 h2 => (k.block i h1 (Nat.lt_of_lt_of_le h2 h.below.size)).trans (h.block i h1 h2)⟩
theorem Out.alloc {B D : Nat} {a w : World} (h : Out B D a w) (hB : B ≤ w.heap.size) (o : Obj) : Out B D a (w.alloc o) :=
  ⟨h.below.alloc hB o, fun k h1 h2 => (Below.heap_alloc _ _ _ (Nat.lt_of_lt_of_le h2 h.below.size)).trans (h.block k h1 h2)⟩
def mkCol (k : Nat) : Int × Int := ((k : Int), (k : Int) + 1)
def mkCols (n k : Nat) : List (Int × Int) := (List.range n).map fun i => mkCol (k + 2 * i)
theorem mkCols_len (n k : Nat) : (mkCols n k).length = n := by simp [mkCols]
theorem mkCols_get {n k i : Nat} (h : i < n) : (mkCols n k).getD i (0, 0) = mkCol (k + 2 * i) := by simp [mkCols, List.getD, h]
def ColArrF (arr : Array Value) (f : Nat → Int × Int) (k : Nat) : Prop := ∀ i, i < k → arr[i * 2]? = some (.int .i64 (f i).1) ∧ arr[i * 2 + 1]? = some (.int .i64 (f i).2)
theorem ColArrF.next {arr : Array Value} {f : Nat → Int × Int} {k n : Nat} (h : ColArrF arr f k) (hs : arr.size = n * 2) (hk : k < n) :
    ColArrF ((arr.setIfInBounds (k * 2) (.int .i64 (f k).1)).setIfInBounds (k * 2 + 1) (.int .i64 (f k).2)) f (k + 1) := by
  obtain ⟨h1, h2, h3⟩ := two_next hs hk (.int .i64 (f k).1) (.int .i64 (f k).2)
  intro i hi
  rcases Nat.lt_or_eq_of_le (Nat.lt_succ_iff.1 hi) with hlt | rfl
  · exact ⟨(h1 _ (by omega)).trans (h i hlt).1, (h1 _ (by omega)).trans (h i hlt).2⟩
  · exact ⟨h2, h3⟩
theorem own_colsT {arr : Array Value} {ps : List (Int × Int)} (hs : ps.length * 2 ≤ arr.size) (h : ColArrF arr (fun i => ps.getD i (0, 0)) ps.length) : arr.toList.take (ps.length * 2) = ps.flatMap colVs := by
  refine flat_take colVs 2 (fun _ => rfl) ps arr hs (fun i hi j hj => ?_)
  have e := h i hi
  dsimp only at e
  rw [getD_get (0, 0) hi] at e
  match j, hj with
  | 0, _ => exact e.1
  | 1, _ => exact e.2

/-- which number a row's marks begin with -/
def kAt (rs : List R) (k : Nat) : Nat → Nat
  | 0 => k
  | i + 1 => kAt rs k i + 11 * (rs.getD i dR).cells.length + 1
def mkR (k : Nat) (r : R) : R := ⟨mkCs r.cells.length k, decide ((k + 11 * r.cells.length) % 3 = 0)⟩
def dU : Value × R := (.slice none 0 0, dR)
/-- the first i of rows marked -/
def mkU (ur : List (Value × R)) (k : Nat) : Nat → List (Value × R)
  | 0 => ur
  | i + 1 => (mkU ur k i).set i ((ur.getD i dU).1, mkR (kAt (ur.map (·.2)) k i) (ur.getD i dU).2)
theorem mkU_len (ur : List (Value × R)) (k : Nat) : ∀ i, (mkU ur k i).length = ur.length
  | 0 => rfl
  | i + 1 => by rw [mkU, List.length_set, mkU_len ur k i]
theorem mkU_old (ur : List (Value × R)) (k : Nat) : ∀ i j, i ≤ j → (mkU ur k i)[j]? = ur[j]?
  | 0, _, _ => rfl
  | i + 1, j, h => by rw [mkU, List.getElem?_set_ne (by omega), mkU_old ur k i j (by omega)]
theorem mkU_new (ur : List (Value × R)) (k : Nat) : ∀ i j, j < i → j < ur.length → (mkU ur k i)[j]? = some ((ur.getD j dU).1, mkR (kAt (ur.map (·.2)) k j) (ur.getD j dU).2)
  | 0, _, h, _ => absurd h (Nat.not_lt_zero _)
  | i + 1, j, h, hj => by
    rw [mkU]
    rcases (by omega : j < i ∨ j = i) with hlt | rfl
    · rw [List.getElem?_set_ne (by omega), mkU_new ur k i j hlt hj]
    · rw [List.getElem?_set_self (by rw [mkU_len]; exact hj)]
theorem kAt_mono (rs : List R) (k : Nat) : ∀ i j, i ≤ j → kAt rs k i ≤ kAt rs k j := by
  intro i j h
  induction j with
  | zero => obtain rfl : i = 0 := by omega
            exact Nat.le_refl _
  | succ j ih =>
    rcases (by omega : i ≤ j ∨ i = j + 1) with hl | rfl
    · have := ih hl; show _ ≤ kAt rs k j + _ + 1; omega
    · exact Nat.le_refl _
/-- one row of a table that is owned: its cells marked, and whether it is whole -/
theorem OwnR.mark {w w1 : World} {base : Nat} {v : Value} {ur : List (Value × R)} (h : OwnR w base v ur) {i g cap : Nat} (hv : v = .slice (some ⟨g, 0, none⟩) ur.length cap) {p : Value × R} (hi : ur[i]? = some p) {r : R} (hc : OwnC w1 base p.1 r.cells) (k : w.grownBy w1 p.1.ownBlock) :
    OwnR (w1.setCell ⟨g, i * 2 + 1, none⟩ (.bool r.whole)) base v (ur.set i (p.1, r)) := by
  have hil : i < ur.length := (List.getElem?_eq_some_iff.1 hi).1
  have hpm : p ∈ ur := List.mem_of_getElem? hi
  have hne : v.ownBlock = none ∨ v.ownBlock ≠ p.1.ownBlock := row_ne h.own (h.cells p hpm) (by decide)
  have hvg : v.ownBlock = some g := by rw [hv]; rfl
  have K1 : Off 0 none p.1.ownBlock w w1 := Off.grown k
  have h1 := row_off h.own K1 (Nat.zero_le _) (.inr (by rw [hvg]; simp)) hne
  have hS : Off 0 (some g) none w1 (w1.setCell ⟨g, i * 2 + 1, none⟩ (.bool r.whole)) := Off.set w1 ⟨g, i * 2 + 1, none⟩ rfl _
  have hcw : OwnC (w1.setCell ⟨g, i * 2 + 1, none⟩ (.bool r.whole)) base p.1 r.cells := by
    refine row_off hc hS (Nat.zero_le _) ?_ ?_
    · rcases row_ne hc h1 (by decide) with e | e
      · exact .inl e
      · exact .inr (by rw [← hvg]; exact e)
    · rcases hb : p.1.ownBlock with _ | b
      · exact .inl rfl
      · exact .inr (by simp)
  refine ⟨?_, fun q hq => ?_, ?_⟩
  · rcases h1.2 with ⟨e, _⟩ | ⟨g', cap', cur, e, hg', hcur, a1, a2, a3, a4⟩
    · rw [hv] at e; simp at e
    · rw [hv] at e
      simp only [Value.slice.injEq, Option.some.injEq, Addr.mk.injEq, and_true, true_and] at e
      obtain ⟨rfl, rfl⟩ := e
      refine ⟨by rw [flat_len rowVs 2 (fun _ => rfl)], .inr ⟨g, cap, cur.setIfInBounds (i * 2 + 1) (.bool r.whole), by rw [List.length_set]; exact hv, hg', setB hcur _, by rw [List.length_set]; exact a1, a2, by rw [Array.size_setIfInBounds]; exact a3, ?_⟩⟩
      refine flat_take rowVs 2 (fun _ => rfl) (ur.set i (p.1, r)) (cur.setIfInBounds (i * 2 + 1) (.bool r.whole)) (by rw [List.length_set, Array.size_setIfInBounds, a3]; omega) (fun j hj0 m hm => ?_)
      have hj : j < ur.length := by rw [List.length_set] at hj0; exact hj0
      have hold : cur[j * 2 + m]? = (rowVs ur[j])[m]? := by
        have e := flat_get rowVs 2 (fun _ => rfl) ur j hj m hm
        rw [← a4, List.getElem?_take_of_lt (by omega), Array.getElem?_toList] at e
        exact e
      by_cases hji : j = i
      · subst hji
        have ep : ur[j] = p := by rw [List.getElem?_eq_getElem hj] at hi; exact Option.some.inj hi
        rw [List.getElem_set_self]
        match m, hm with
        | 0, _ =>
          rw [Array.getElem?_setIfInBounds_ne (by omega), hold, ep]
          rfl
        | 1, _ =>
          rw [Array.getElem?_setIfInBounds_self_of_lt (by rw [a3]; omega)]
          rfl
      · rw [List.getElem_set_ne (by omega), Array.getElem?_setIfInBounds_ne (by omega)]
        exact hold
  · obtain ⟨j, hj0, rfl⟩ := List.mem_iff_getElem.1 hq
    have hj : j < ur.length := by rw [List.length_set] at hj0; exact hj0
    by_cases hji : j = i
    · subst hji
      rw [List.getElem_set_self]
      exact hcw
    · rw [List.getElem_set_ne (by omega)]
      have hap : ur[j].1.ownBlock = none ∨ ur[j].1.ownBlock ≠ p.1.ownBlock := by
        have ep : ur[i] = p := by rw [List.getElem?_eq_getElem hil] at hi; exact Option.some.inj hi
        have hp := List.pairwise_iff_getElem.1 h.apart
        rcases Nat.lt_or_gt_of_ne hji with hl | hl
        · rw [← ep]; exact hp j i hj hil hl
        · have := hp i j hil hj hl
          rw [ep] at this
          rcases hb : ur[j].1.ownBlock with _ | b
          · exact .inl rfl
          · refine .inr (fun e => ?_)
            rcases this with e1 | e1
            · rw [e1] at e; cases e
            · exact e1 (e.symm.trans hb.symm)
      have c1 := row_off (h.cells _ (List.getElem_mem hj)) K1 (Nat.zero_le _) (by rcases hb : ur[j].1.ownBlock with _ | b; exact .inl rfl; exact .inr (by simp)) hap
      refine row_off c1 hS (Nat.zero_le _) ?_ (by rcases hb : ur[j].1.ownBlock with _ | b; exact .inl rfl; exact .inr (by simp))
      rcases row_ne c1 h1 (by decide) with e | e
      · exact .inl e
      · exact .inr (by rw [← hvg]; exact e)
  · rw [List.pairwise_iff_getElem]
    have hp := List.pairwise_iff_getElem.1 h.apart
    have hfst : ∀ j, (hj : j < ur.length) → ((ur.set i (p.1, r))[j]'(by rw [List.length_set]; exact hj)).1 = ur[j].1 := fun j hj => by
      by_cases hji : j = i
      · subst hji
        rw [List.getElem_set_self, show ur[j] = p by rw [List.getElem?_eq_getElem hj] at hi; exact Option.some.inj hi]
      · rw [List.getElem_set_ne (by omega)]
    intro a b ha0 hb0 hab
    have ha : a < ur.length := by rw [List.length_set] at ha0; exact ha0
    have hb : b < ur.length := by rw [List.length_set] at hb0; exact hb0
    rw [hfst a ha, hfst b hb]
    exact hp a b ha hb hab
end Go.Proofs.Ytggmjiddadjilal
namespace Go.Proofs.Ytggmjiddadjilal
open Go.RowKit

theorem news_flat {α : Type} (f : α → List Value) (sz : Nat) (hf : ∀ x, (f x).length = sz) (hz : 0 < sz) (l : List α) {w : World} {a : Option Addr} (h : ∀ i, (hi : i < l.length) → ∃ b off, a = some ⟨b, off, none⟩ ∧ ∀ m, m < sz → w.cell? ⟨b, off + i * sz + m, none⟩ = (f l[i])[m]?) :
    ∀ p, a = some p → ∀ j u, (l.flatMap f)[j]? = some u → w.cell? (p.add j) = some u := by
  intro p hp j u hj
  have hl : j < l.length * sz := by rw [← flat_len f sz hf]; exact (List.getElem?_eq_some_iff.1 hj).1
  have h1 : j / sz < l.length := (Nat.div_lt_iff_lt_mul hz).2 hl
  have h2 : j % sz < sz := Nat.mod_lt _ hz
  have e : j = j / sz * sz + j % sz := by rw [Nat.mul_comm]; exact (Nat.div_add_mod j sz).symm
  obtain ⟨b, off, ha, hc⟩ := h (j / sz) h1
  have hpe : p = ⟨b, off, none⟩ := Option.some.inj (hp.symm.trans ha)
  subst hpe
  have hb := flat_get f sz hf l (j / sz) h1 (j % sz) h2
  rw [← e, hj] at hb
  have hd : (⟨b, off, none⟩ : Addr).add j = ⟨b, off + j, none⟩ := by simp [Addr.add]
  rw [hd, show off + j = off + j / sz * sz + j % sz by omega, hc (j % sz) h2, ← hb]
theorem one_cols (ps : List (Int × Int)) : ∀ u ∈ ps.flatMap colVs, u.oneCell' = true := by
  intro u hu
  obtain ⟨p, _, hp⟩ := List.mem_flatMap.1 hu
  simp only [colVs, List.mem_cons, List.not_mem_nil, or_false] at hp
  rcases hp with rfl | rfl <;> rfl
theorem one_cells (cs : List C) : ∀ u ∈ cs.flatMap cellVs, u.oneCell' = true := by
  intro u hu
  obtain ⟨p, _, hp⟩ := List.mem_flatMap.1 hu
  simp only [cellVs, List.mem_cons, List.not_mem_nil, or_false] at hp
  rcases hp with rfl | rfl | rfl | rfl | rfl | rfl | rfl | rfl | rfl | rfl | rfl <;> rfl
theorem at_some {w : World} {z n sz : Nat} {a : Option Addr} {cap : Nat} {E : Nat → Nat → Nat → Prop} (h : At w z (.slice a n cap) n sz E) : n ≠ 0 → a ≠ none := by
  intro h0 e
  obtain ⟨a', cap', hv, _, _, h3⟩ := h
  obtain ⟨b, off, ha, _⟩ := h3 0 (by omega)
  simp only [Value.slice.injEq, true_and] at hv
  rw [hv.1, ha] at e
  cases e
theorem clone_cols (a : Option Addr) (cap : Nat) (ps : List (Int × Int)) (hn : ps.length ≤ 1048576) (w : World) {z : Nat} (h : ColsAt w z (.slice a ps.length cap) ps) :
    Calls Try.prog 62 #[.slice a ps.length cap] w fun e w' => ∃ a' c', e = .returned (.slice a' ps.length c') ∧ OwnCol w' w.heap.size (.slice a' ps.length c') ps ∧ Below w.heap.size w w' := by
  refine (cloneCol a ps.length cap (ps.flatMap colVs) (flat_len colVs 2 (fun _ => rfl) ps) hn (one_cols ps) (at_some h) w (news_flat colVs 2 (fun _ => rfl) (by decide) ps (fun i hi => ?_))).mono ?_
  · obtain ⟨b, off, cap', e', _, _, _, h1, h2⟩ := At.get h hi
    simp only [Value.slice.injEq, true_and] at e'
    refine ⟨b, off, e'.1, fun m hm => ?_⟩
    rw [getD_get (0, 0) hi] at h1 h2
    match m, hm with
    | 0, _ => exact h1
    | 1, _ => exact h2
  · rintro e w' ⟨v', rfl, ho, hb⟩
    obtain ⟨a', c', rfl, _⟩ := row_form ho
    exact ⟨a', c', rfl, ho, hb⟩
theorem clone_cells (a : Option Addr) (cap : Nat) (cs : List C) (hn : cs.length ≤ 1048576) (w : World) {z : Nat} (h : CellsAt w z (.slice a cs.length cap) cs) :
    Calls Try.prog 64 #[.slice a cs.length cap] w fun e w' => ∃ a' c', e = .returned (.slice a' cs.length c') ∧ OwnC w' w.heap.size (.slice a' cs.length c') cs ∧ Below w.heap.size w w' := by
  refine (cloneCell a cs.length cap (cs.flatMap cellVs) (flat_len cellVs 11 (fun _ => rfl) cs) hn (one_cells cs) (at_some h) w (news_flat cellVs 11 (fun _ => rfl) (by decide) cs (fun i hi => ?_))).mono ?_
  · obtain ⟨b, off, cap', e', _, _, _, hx, _⟩ := At.get h hi
    simp only [Value.slice.injEq, true_and] at e'
    refine ⟨b, off, e'.1, fun m hm => ?_⟩
    rw [getD_get dC hi] at hx
    obtain ⟨h0, h1, h2, h3, h4, h5, h6, h7, h8, h9, h10⟩ := hx
    match m, hm with
    | 0, _ => exact h0
    | 1, _ => exact h1
    | 2, _ => exact h2
    | 3, _ => exact h3
    | 4, _ => exact h4
    | 5, _ => exact h5
    | 6, _ => exact h6
    | 7, _ => exact h7
    | 8, _ => exact h8
    | 9, _ => exact h9
    | 10, _ => exact h10
  · rintro e w' ⟨v', rfl, ho, hb⟩
    obtain ⟨a', c', rfl, _⟩ := row_form ho
    exact ⟨a', c', rfl, ho, hb⟩
/-- the rows of a table, each with the slice of its cells -/
theorem rows_list {w : World} {z : Nat} {a : Option Addr} {cap : Nat} {rs : List R} (h : RowsAt w z (.slice a rs.length cap) rs) : ∃ us : List Value, us.length = rs.length ∧ ∀ i, (hi : i < rs.length) → ∃ b off u, a = some ⟨b, off, none⟩ ∧ us[i]? = some u ∧ w.cell? ⟨b, off + i * 2, none⟩ = some u ∧ w.cell? ⟨b, off + i * 2 + 1, none⟩ = some (.bool rs[i].whole) ∧ (∃ au cu, u = .slice au rs[i].cells.length cu) := by
  suffices H : ∀ k, k ≤ rs.length → ∃ us : List Value, us.length = k ∧ ∀ i, i < k → ∀ hi : i < rs.length, ∃ b off u, a = some ⟨b, off, none⟩ ∧ us[i]? = some u ∧ w.cell? ⟨b, off + i * 2, none⟩ = some u ∧ w.cell? ⟨b, off + i * 2 + 1, none⟩ = some (.bool rs[i].whole) ∧ (∃ au cu, u = .slice au rs[i].cells.length cu) by
    obtain ⟨us, h1, h2⟩ := H rs.length (Nat.le_refl _)
    exact ⟨us, h1, fun i hi => h2 i hi hi⟩
  intro k
  induction k with
  | zero => intro _; exact ⟨[], rfl, fun i hi => absurd hi (Nat.not_lt_zero _)⟩
  | succ k ih =>
    intro hk
    obtain ⟨us, h1, h2⟩ := ih (by omega)
    obtain ⟨b, off, cap', e', _, _, _, u, hx0, hx1, hx⟩ := At.get h (i := k) (by omega)
    simp only [Value.slice.injEq, true_and] at e'
    rw [getD_get dR (by omega : k < rs.length)] at hx1 hx
    obtain ⟨au, cu, rfl, _⟩ := At.form hx
    refine ⟨us ++ [.slice au rs[k].cells.length cu], by simp [h1], fun i hi hir => ?_⟩
    rcases Nat.lt_or_eq_of_le (Nat.lt_succ_iff.1 hi) with hl | rfl
    · obtain ⟨b', off', u', p1, p2, p3, p4, p5⟩ := h2 i hl hir
      exact ⟨b', off', u', p1, by rw [List.getElem?_append_left (by omega)]; exact p2, p3, p4, p5⟩
    · exact ⟨b, off, _, e'.1, by rw [List.getElem?_append_right (by omega), h1]; simp, hx0, hx1, ⟨au, cu, rfl⟩⟩
def rowsV (us : List Value) (rs : List R) : List Value := (us.zip rs).flatMap rowVs
theorem clone_rows (a : Option Addr) (cap : Nat) (rs : List R) (hn : rs.length ≤ 1048576) (w : World) {z : Nat} (h : RowsAt w z (.slice a rs.length cap) rs) :
    Calls Try.prog 63 #[.slice a rs.length cap] w fun e w' => ∃ us a' c', us.length = rs.length ∧ e = .returned (.slice a' rs.length c') ∧ w'.ownsRow w.heap.size 51 2 (.slice a' rs.length c') rs.length (rowsV us rs) ∧ Below w.heap.size w w' := by
  obtain ⟨us, hu, hg⟩ := rows_list h
  have hz : (us.zip rs).length = rs.length := by rw [List.length_zip, hu, Nat.min_self]
  have hl : (rowsV us rs).length = rs.length * 2 := by rw [rowsV, flat_len rowVs 2 (fun _ => rfl), hz]
  have hone : ∀ u ∈ rowsV us rs, u.oneCell' = true := by
    intro u hm
    obtain ⟨p, hp, hq⟩ := List.mem_flatMap.1 hm
    obtain ⟨i, hi, rfl⟩ := List.mem_iff_getElem.1 hp
    rw [hz] at hi
    obtain ⟨b, off, u', _, p2, _, _, au, cu, rfl⟩ := hg i hi
    have e : us[i]'(by omega) = .slice au rs[i].cells.length cu := by rw [List.getElem?_eq_getElem (by omega)] at p2; exact Option.some.inj p2
    rw [List.getElem_zip, rowVs, e] at hq
    simp only [List.mem_cons, List.not_mem_nil, or_false] at hq
    rcases hq with rfl | rfl <;> rfl
  refine (cloneRow a rs.length cap (rowsV us rs) hl hn hone (at_some h) w (news_flat rowVs 2 (fun _ => rfl) (by decide) (us.zip rs) (fun i hi => ?_))).mono ?_
  · rw [hz] at hi
    obtain ⟨b, off, u', p1, p2, p3, p4, _⟩ := hg i hi
    have e : us[i]'(by omega) = u' := by rw [List.getElem?_eq_getElem (by omega)] at p2; exact Option.some.inj p2
    refine ⟨b, off, p1, fun m hm => ?_⟩
    rw [List.getElem_zip, e]
    match m, hm with
    | 0, _ => exact p3
    | 1, _ => exact p4
  · rintro e w' ⟨v', rfl, ho, hb⟩
    obtain ⟨a', c', rfl, _⟩ := row_form ho
    exact ⟨us, a', c', hu, rfl, ho, hb⟩
end Go.Proofs.Ytggmjiddadjilal
namespace Go.Proofs.Ytggmjiddadjilal
open Go.RowKit

theorem run_append_none {P : Program} {w : World} (base : Nat) (t ty e : TypeId) (i : TypeInfo) (size c : Nat) (ht : P.underlying t = some (.slice e)) (hi : P.info? e = some i)
    (v : Value) (n : Nat) (xs : List Value) (hown : w.ownsRow base e size v n xs) : (Builtin.append_ #[t, t] ty #[v, .slice none 0 c]).run P w = .ok v w := by
  rcases hown.2 with ⟨rfl, rfl⟩ | ⟨g, cap, cur, rfl, _, _, hnc, _⟩
  · simp [Builtin.append_, run_underlying ht, sizeOf, typeInfo, hi, Builtin.lenOf, Builtin.firstCells]
  · simp [Builtin.append_, run_underlying ht, sizeOf, typeInfo, hi, Builtin.lenOf, Builtin.firstCells, hnc, storeCells]
theorem wp_append_src {P : Program} (w : World) {o : Oper} {a : Act} {K : Act → World → Prop} {Q : Exit → Act → World → Prop} (s x : Operand) (t : TypeId)
    (ho : o.op = .call { callee := .builtin .append, args := #[s, x], argTypes := #[t, t] })
    (base : Nat) (e : TypeId) (i : TypeInfo) (z : Value) (size bytes : Nat) (ht : P.underlying t = some (.slice e)) (hi : P.info? e = some i) (hz : i.zero = some z)
    (hsize : i.size = size) (hby : i.bytes = bytes) (hzs : z.cells.size = size) (hsz : 0 < size)
    (v : Value) (n : Nat) (xs : List Value) (hs : a.eval s = v) (hown : w.ownsRow base e size v n xs)
    (ad : Option Addr) (m c : Nat) (news : List Value) (hx : a.eval x = .slice ad m c) (hm : m ≠ 0 → ad ≠ none) (hl : news.length = m * size) (hnews : ∀ p, ad = some p → ∀ j u, news[j]? = some u → w.cell? (p.add j) = some u) (h1 : ∀ u ∈ news, u.oneCell' = true)
    (h63 : n + m ≤ maxLen) (hbytes : (n + m) * bytes ≤ 140737488355328) (hbase : base ≤ w.heap.size)
    (h : ∀ v' w', w'.ownsRow base e size v' (n + m) (xs ++ news) → w.grownBy w' v.ownBlock → K (a.put o.dst v') w') : o.wp P a w K Q := by
  rcases ad with _ | p
  · obtain rfl : m = 0 := by
      rcases Nat.eq_zero_or_pos m with h0 | h0
      · exact h0
      · exact absurd rfl (hm (by omega))
    obtain rfl : news = [] := List.length_eq_zero_iff.1 (by omega)
    have hr := run_append_none (P := P) (w := w) base t o.type e i size c ht hi v n xs hown
    unfold Oper.wp execOp
    simp only [ho, resolve, invoke, builtin, Sem.run_bind, Sem.run_pure, Result.andThen_ok, List.map_toArray, List.map_cons, List.map_nil, hs, hx, hr]
    exact h v w (by simpa using hown) ⟨rfl, rfl, rfl, Nat.le_refl _, fun _ _ _ => rfl⟩
  · exact wp_append_own w s x t ho base e i z size bytes ht hi hz hsize hby hzs hsz v n xs hs hown p m c news hx hl (hnews p rfl) h1 h63 hbytes hbase (fun v' w' h1 h2 _ => h v' w' h1 h2)
/-- rows that are owned, and one more -/
theorem OwnR.push {w w' : World} {B : Nat} {U v' : Value} {ur : List (Value × R)} (h : OwnR w B U ur) (k : w.grownBy w' U.ownBlock) {u : Value} {r : R} (hO : w'.ownsRow B 51 2 v' (ur.length + 1) (ur.flatMap rowVs ++ rowVs (u, r))) (hu : OwnC w B u r.cells) (ha : ∀ p ∈ ur, p.1.ownBlock = none ∨ p.1.ownBlock ≠ u.ownBlock) : OwnR w' B v' (ur ++ [(u, r)]) := by
  have hnn : ∀ u : Value, u.ownBlock = none ∨ u.ownBlock ≠ none := fun u => by rcases hb : u.ownBlock with _ | b; exact .inl rfl; exact .inr (by simp)
  have K1 : Off 0 none U.ownBlock w w' := Off.grown k
  refine ⟨by simpa [List.flatMap_append] using hO, fun p hp => ?_, ?_⟩
  · rcases List.mem_append.1 hp with hp | hp
    · exact row_off (h.cells p hp) K1 (Nat.zero_le _) (hnn _) (row_ne (h.cells p hp) h.own (by decide))
    · rw [List.mem_singleton] at hp
      subst hp
      exact row_off hu K1 (Nat.zero_le _) (hnn _) (row_ne hu h.own (by decide))
  · rw [List.pairwise_append]
    refine ⟨h.apart, List.pairwise_singleton _ _, fun p hp q hq => ?_⟩
    rw [List.mem_singleton] at hq
    subst hq
    exact ha p hp
theorem OwnR.kept {w w' : World} {B : Nat} {U : Value} {ur : List (Value × R)} (h : OwnR w B U ur) (k : Below w.heap.size w w') : OwnR w' B U ur := h.since (.of_below k)
theorem news_cols {w : World} {z : Nat} {a : Option Addr} {cap : Nat} {ps : List (Int × Int)} (h : ColsAt w z (.slice a ps.length cap) ps) : ∀ p, a = some p → ∀ j u, (ps.flatMap colVs)[j]? = some u → w.cell? (p.add j) = some u := by
  refine news_flat colVs 2 (fun _ => rfl) (by decide) ps (fun i hi => ?_)
  obtain ⟨b, off, cap', e', _, _, _, h1, h2⟩ := At.get h hi
  simp only [Value.slice.injEq, true_and] at e'
  refine ⟨b, off, e'.1, fun m hm => ?_⟩
  rw [getD_get (0, 0) hi] at h1 h2
  match m, hm with
  | 0, _ => exact h1
  | 1, _ => exact h2
theorem news_cells {w : World} {z : Nat} {a : Option Addr} {cap : Nat} {cs : List C} (h : CellsAt w z (.slice a cs.length cap) cs) : ∀ p, a = some p → ∀ j u, (cs.flatMap cellVs)[j]? = some u → w.cell? (p.add j) = some u := by
  refine news_flat cellVs 11 (fun _ => rfl) (by decide) cs (fun i hi => ?_)
  obtain ⟨b, off, cap', e', _, _, _, hx, _⟩ := At.get h hi
  simp only [Value.slice.injEq, true_and] at e'
  refine ⟨b, off, e'.1, fun m hm => ?_⟩
  rw [getD_get dC hi] at hx
  obtain ⟨h0, h1, h2, h3, h4, h5, h6, h7, h8, h9, h10⟩ := hx
  match m, hm with
  | 0, _ => exact h0
  | 1, _ => exact h1
  | 2, _ => exact h2
  | 3, _ => exact h3
  | 4, _ => exact h4
  | 5, _ => exact h5
  | 6, _ => exact h6
  | 7, _ => exact h7
  | 8, _ => exact h8
  | 9, _ => exact h9
  | 10, _ => exact h10
theorem row_alloc {w : World} {base : Nat} {e : TypeId} {sz : Nat} {v : Value} {m : Nat} {xs : List Value} (h : w.ownsRow base e sz v m xs) (o : Obj) : (w.alloc o).ownsRow base e sz v m xs := row_since h (.of_below (k_alloc (Below.refl _ _) o))
theorem grown_block {w w' : World} {base : Nat} {e e' : TypeId} {sz : Nat} {v : Value} {m : Nat} {xs : List Value} (h : w.ownsRow base e sz v m xs) (k : w.grownBy w' v.ownBlock) {g : Nat} {cur : Array Value} (hg : w.heap[g]? = some (.cells cur e')) (he : e ≠ e') : w'.heap[g]? = some (.cells cur e') := by
  refine (k.block g (Array.getElem?_eq_some_iff.1 hg).1 (fun e1 => ?_)).trans hg
  rcases row_ne_block h hg he with h4 | h4
  · rw [h4] at e1; cases e1
  · exact h4 e1.symm
theorem grown_own9 {w w' : World} {base base' : Nat} {e e' : TypeId} {sz sz' : Nat} {v v' : Value} {m m' : Nat} {xs xs' : List Value} (h : w.ownsRow base e sz v m xs) (k : w.grownBy w' v.ownBlock) (h' : w.ownsRow base' e' sz' v' m' xs') (he : e' ≠ e) : w'.ownsRow base' e' sz' v' m' xs' :=
  row_off h' (Off.grown (b1 := none) (n := 0) k) (Nat.zero_le _) (by rcases hb : v'.ownBlock with _ | b; exact .inl rfl; exact .inr (by simp)) (row_ne h' h he)
end Go.Proofs.Ytggmjiddadjilal
namespace Go.Proofs.Ytggmjiddadjilal
open Go.RowKit

theorem ret_boolG {a b : Bool} (h : a = b) : Ending.returned (.bool a) = .returned (.bool b) := by rw [h]
def isIn (row ins : Int) (x : GC) : Bool := (x.row == row) && (x.ins == ins)
/-- whether a place is one of so many from a first one on -/
def amongB (x first many : Int) : Bool := decide (first ≤ x) && decide (0 < many) && decide (x - first < many)
def holdsB (row col : Int) (x : GC) : Bool := amongB row x.row x.rows && amongB col x.col x.cols

theorem lt_of_blockG {w : World} {g : Nat} {o : Obj} (h : w.heap[g]? = some o) : g < w.heap.size := (Array.getElem?_eq_some_iff.1 h).1

theorem wrap_sub {x f : Int} (hx : -9223372036854775808 ≤ x ∧ x ≤ 9223372036854775807) (hf : -9223372036854775808 ≤ f ∧ f ≤ 9223372036854775807) (h : f ≤ x) : IntKind.u64.wrap (IntKind.u64.wrap x - IntKind.u64.wrap f) = x - f := by
  simp [IntKind.wrap, IntKind.bits, IntKind.signed]
  omega

end Go.Proofs.Ytggmjiddadjilal
namespace Go.Proofs.Ytggmjiddadjilal
open Go.RowKit

theorem reaches_any (x f m : Int) (hx : I64 x) (hf : I64 f) (hm : I64 m) (w : World) :
    Calls Try.prog 78 #[.int .i64 f, .int .i64 m, .int .i64 x] w fun e w' => e = .returned (.bool (amongB x f m)) ∧ w' = w := by
  unfold I64 at hx hf hm
  by_cases h1 : f ≤ x
  · by_cases h2 : 0 < m
    · have e : amongB x f m = decide (x - f < m) := by simp [amongB]; omega
      rw [e]
      go_enter Try.func78, Try.ntmps78
      go_wp2
      go_ret
      exact ⟨ret_boolG (by rw [wrap_sub hx hf h1]), rfl⟩
    · have e : amongB x f m = false := by simp [amongB]; omega
      rw [e]
      go_enter Try.func78, Try.ntmps78
      go_wp2
      go_ret
      exact ⟨rfl, rfl⟩
  · have e : amongB x f m = false := by simp [amongB]; omega
    rw [e]
    go_enter Try.func78, Try.ntmps78
    go_wp2
    go_ret
    exact ⟨rfl, rfl⟩
end Go.Proofs.Ytggmjiddadjilal
