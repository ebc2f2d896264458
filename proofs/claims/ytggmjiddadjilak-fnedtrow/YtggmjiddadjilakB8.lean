/-
  PROVED HERE: a table with one row more, as a list; rows out of two copies and one between them, in memory. Also: the part of a row of a table. Also: how many cells rows have together. Also: what a table with one row more is, as a list: ok, its parts, its rows, as many cells as before. Also: an append that fits; cells that are owned, the first ones and the last ones of them. Also: what slices.Insert answers of rows that are owned, a row without cells, and the place behind the last one. Also: the builtin copy over elements of any width, into a block of one's own. Also: what slices.Insert answers of rows that are owned, a row without cells, and a place ahead of the last one, where there is room.
-/
import Derived.Test.YtggmjiddadjilakB4
import Derived.Test.YtggmjiddadjilakB7
import Derived.Test.YtggmjiddadjilakB3
import Derived.Test.YtggmjiddadjilakB1
import Derived.Test.YtggmjiddadjilakB6
import Derived.Test.YtggmjiddadjilakB2
import Derived.WalkLawsBesides
import Derived.WalkSpells
import Derived.Deep.RegionWith
import Derived.Deep.QuietTactic
import Derived.BigQuiet
import Derived.Deep.Cut
import Derived.Laws.OwnMore
import Derived.Laws.IdiomCopy
import Derived.Laws.CopyRow
import Derived.Laws.Append
import Derived.Lib.Overlaps
import Derived.Shelf.Spec.SlicesInsert
namespace Go.Proofs.Ytggmjiddadjilak
open Go.RowKit

/-- is there a place for a row -/
def plcB (t : T) (at' : Int) : Bool := inB at' t.head ((t.rows.length : Int) - t.foot) && decide (t.rows.length < 8)
/-- a table with a row without cells at a place -/
def insT (t : T) (k : Nat) : T := ⟨t.cols, t.head, t.foot, t.rows.take k ++ ⟨[], false⟩ :: t.rows.drop k, t.gap⟩
/-- a table behind a row that came between -/
def edRow (t : T) (at' : Int) : T × Bool := if tblB t = true then (if plcB t at' = true then (insT t at'.toNat, true) else (t, false)) else (zT, false)
theorem ins_len (l : List R) (k : Nat) (x : R) : (l.take k ++ x :: l.drop k).length = l.length + 1 := by
  rw [List.length_append, List.length_cons, List.length_take, List.length_drop]
  omega
theorem ins_mem {l : List R} {k : Nat} {x q : R} (h : q ∈ l.take k ++ x :: l.drop k) : q ∈ l ∨ q = x := by
  rcases List.mem_append.1 h with h | h
  · exact .inl (List.mem_of_mem_take h)
  · rcases List.mem_cons.1 h with h | h
    · exact .inr h
    · exact .inl (List.mem_of_mem_drop h)
theorem smT_row {t : T} {at' : Int} : SmT (edRow t at').1 := by
  unfold edRow
  split
  · rename_i h
    split
    · rename_i h2
      have h8 : t.rows.length < 8 := by
        unfold plcB at h2
        rw [Bool.and_eq_true] at h2
        exact of_decide_eq_true h2.2
      refine ⟨(smT_ok h).cols, ?_, fun i hi => ?_⟩
      · show (t.rows.take _ ++ _ :: t.rows.drop _).length ≤ 9
        rw [ins_len]
        omega
      · change i < (t.rows.take at'.toNat ++ ⟨[], false⟩ :: t.rows.drop at'.toNat).length at hi
        show ((t.rows.take at'.toNat ++ ⟨[], false⟩ :: t.rows.drop at'.toNat).getD i dR).cells.length ≤ 6
        rw [getD_get dR hi]
        rcases ins_mem (List.getElem_mem hi) with hm | hm
        · obtain ⟨j, hj, e⟩ := List.mem_iff_getElem.1 hm
          rw [← e, ← getD_get dR hj]
          exact (smT_ok h).cells j hj
        · rw [hm]
          exact Nat.zero_le _
    · exact smT_ok h
  · exact smT_z
theorem txM_row {t : T} (ht : TxM t) {at' : Int} : TxM (edRow t at').1 := by
  unfold edRow
  split
  · split
    · intro q hq x hx
      rcases ins_mem hq with hm | hm
      · exact ht q hm x hx
      · subst hm
        exact absurd hx (by simp)
    · exact ht
  · exact txM_z
/-- rows out of two copies, and one without cells between them -/
theorem own_ins {w W9 : World} {B B2 : Nat} {vc v1 v2 v9 : Value} {cols : List (Int × Int)} {ux uy : List (Value × R)} {k : Nat} (hc : OwnCol w B vc cols) (hx : OwnR w B v1 ux) (hy : OwnR w B2 v2 uy) (hB2 : B ≤ B2) (hD : ∀ p ∈ ux, ∀ b, p.1.ownBlock = some b → b < B2) (hk : Below w.heap.size w W9) (hw : B ≤ w.heap.size) {m : Nat} (hm : (ux.take k ++ (Value.slice none 0 0, ⟨[], false⟩) :: uy.drop k).length = m)
    (hO : W9.ownsRow w.heap.size 37 2 v9 m ((ux.take k ++ (Value.slice none 0 0, ⟨[], false⟩) :: uy.drop k).flatMap rowVs)) {xb : Nat} {arr : Array Value} (hxb : W9.heap[xb]? = some (.cells arr 26)) (p : Nat) (u : Value) :
    OwnCol (W9.setCell ⟨xb, p, none⟩ u) B vc cols ∧ OwnR (W9.setCell ⟨xb, p, none⟩ u) B v9 (ux.take k ++ (Value.slice none 0 0, ⟨[], false⟩) :: uy.drop k) := by
  subst hm
  have hnn : ∀ u : Value, u.ownBlock = none ∨ u.ownBlock ≠ none := fun u => by rcases hb : u.ownBlock with _ | b; exact .inl rfl; exact .inr (by simp)
  refine ⟨row_put9 (row_since hc (.of_below hk)) hxb (by decide) p u, ⟨row_put9 (row_base hO hw) hxb (by decide) p u, fun q hq => ?_, ?_⟩⟩
  · rcases List.mem_append.1 hq with hq | hq
    · exact row_put9 (row_since (hx.cells q (List.mem_of_mem_take hq)) (.of_below hk)) hxb (by decide) p u
    · rcases List.mem_cons.1 hq with rfl | hq
      · exact ⟨rfl, .inl ⟨rfl, rfl⟩⟩
      · exact row_put9 (row_base (row_since (hy.cells q (List.mem_of_mem_drop hq)) (.of_below hk)) hB2) hxb (by decide) p u
  · rw [List.pairwise_append, List.pairwise_cons]
    refine ⟨hx.apart.sublist (List.take_sublist _ _), ⟨fun q _ => .inl rfl, hy.apart.sublist (List.drop_sublist _ _)⟩, fun q hq q' hq' => ?_⟩
    rcases List.mem_cons.1 hq' with rfl | hq'
    · exact hnn _
    · rcases hb : q.1.ownBlock with _ | b
      · exact .inl rfl
      · refine .inr (fun e => ?_)
        have h1 := hD q (List.mem_of_mem_take hq) b hb
        have h2 := (row_lt (hy.cells q' (List.mem_of_mem_drop hq')) e.symm).1
        omega
end Go.Proofs.Ytggmjiddadjilak
namespace Go.Proofs.Ytggmjiddadjilak
open Go.RowKit

def partOf (t : T) (q : Int) : Int := if tblB t = true ∧ inB q 0 (t.rows.length - 1) = true then (if q < t.head then 0 else if t.rows.length - t.foot ≤ q then 2 else 1) else -1
theorem retIP {a b : Int} (h : a = b) : Ending.returned (.int .i64 a) = .returned (.int .i64 b) := by rw [h]
theorem tblB_bounds {t : T} (h : tblB t = true) : (1 ≤ t.rows.length ∧ t.rows.length ≤ 8) ∧ (0 ≤ t.head ∧ t.head ≤ t.rows.length) ∧ 0 ≤ t.foot ∧ t.foot ≤ t.rows.length := by
  simp only [tblB, partsB, Bool.and_eq_true] at h
  have h1 : (1 : Int) ≤ t.rows.length ∧ (t.rows.length : Int) ≤ 8 := of_decide_eq_true h.1
  have h2 : 0 ≤ t.head ∧ t.head ≤ t.rows.length := of_decide_eq_true h.2.1.1
  have h3 : 0 ≤ t.foot ∧ t.foot ≤ t.rows.length - t.head := of_decide_eq_true h.2.1.2
  omega
end Go.Proofs.Ytggmjiddadjilak
namespace Go.Proofs.Ytggmjiddadjilak
open Go.RowKit

def cnTo (rs : List R) (k : Nat) : Nat := ((rs.take k).map (fun x => x.cells.length)).sum
theorem cnTo_succ {rs : List R} {k : Nat} (h : k < rs.length) : cnTo rs (k + 1) = cnTo rs k + (rs.getD k dR).cells.length := by
  have e : rs.getD k dR = rs[k] := by simp [List.getD, h]
  rw [e]
  exact sum_take_succ (fun x : R => x.cells.length) rs k h
theorem cnTo_le (rs : List R) (k : Nat) : cnTo rs k ≤ totR rs := by
  have h1 := sum_take_le (fun x : R => x.cells.length) rs k
  have h2 : (rs.map (fun x : R => x.cells.length)).sum ≤ totR rs := by
    clear h1
    induction rs with
    | nil => simp [totR]
    | cons x r ih => have := totC_eq x.cells; simp [totR]; omega
  exact Nat.le_trans h1 h2
end Go.Proofs.Ytggmjiddadjilak
namespace Go.Proofs.Ytggmjiddadjilak
open Go.RowKit

theorem tot_okC : ∀ cs : List C, cs.all cB = true → totC cs ≤ 31 * cs.length
  | [], _ => by simp [totC]
  | x :: r, h => by
    rw [List.all_cons, Bool.and_eq_true] at h
    have h2 := tot_okC r h.2
    have h1 : x.s.size ≤ 30 := by
      have := h.1
      simp only [cB, cellOkB, Bool.and_eq_true] at this
      exact ((txtOkB_iff _).1 this.1).1
    simp only [totC, List.length_cons]
    omega
theorem tot_okR : ∀ rs : List R, rs.all rowB = true → totR rs ≤ 156 * rs.length
  | [], _ => by simp [totR]
  | x :: r, h => by
    rw [List.all_cons, Bool.and_eq_true] at h
    have h2 := tot_okR r h.2
    have h1 := h.1
    simp only [rowB, Bool.and_eq_true, decide_eq_true_eq] at h1
    have h3 := tot_okC x.cells h1.2
    simp only [totR, List.length_cons]
    omega
theorem tot_ok {t : T} (h : tblB t = true) : totR t.rows ≤ 1048576 := by
  simp only [tblB, inB, Bool.and_eq_true, decide_eq_true_eq] at h
  have := tot_okR t.rows h.2.2.2.2
  omega
theorem plcB_iff {t : T} {at' : Int} (h : plcB t at' = true) (hk : tblB t = true) : ∃ i : Nat, at' = i ∧ t.head ≤ i ∧ (i : Int) ≤ (t.rows.length : Int) - t.foot ∧ t.rows.length < 8 ∧ i ≤ t.rows.length := by
  simp only [plcB, inB, Bool.and_eq_true, decide_eq_true_eq] at h
  have hb := tblB_bounds hk
  exact ⟨at'.toNat, by omega, by omega, by omega, h.2, by omega⟩
theorem insT_len (t : T) (i : Nat) : (insT t i).rows.length = t.rows.length + 1 := by
  show (t.rows.take i ++ ⟨[], false⟩ :: t.rows.drop i).length = _
  rw [ins_len]
theorem insT_ok {t : T} (hk : tblB t = true) {at' : Int} (hp : plcB t at' = true) : tblB (insT t at'.toNat) = true := by
  obtain ⟨i, rfl, h1, h2, h3, h4⟩ := plcB_iff hp hk
  rw [Int.toNat_natCast]
  simp only [tblB, partsB, inB, Bool.and_eq_true, decide_eq_true_eq, List.all_eq_true] at hk ⊢
  rw [insT_len]
  obtain ⟨k1, ⟨k2, k3⟩, k4, k5, k6⟩ := hk
  refine ⟨by omega, ⟨?_, ?_⟩, k4, k5, fun q hq => ?_⟩
  · show 0 ≤ t.head ∧ t.head ≤ _
    omega
  · show 0 ≤ t.foot ∧ t.foot ≤ _ - t.head
    omega
  · rcases ins_mem hq with hm | hm
    · exact k6 q hm
    · rw [hm]; rfl
theorem insT_new (t : T) {i : Nat} (h : i ≤ t.rows.length) : (insT t i).rows.getD i dR = ⟨[], false⟩ := by
  show (t.rows.take i ++ ⟨[], false⟩ :: t.rows.drop i).getD i dR = _
  rw [List.getD_eq_getElem?_getD, List.getElem?_append_right (by rw [List.length_take]; omega), List.length_take, Nat.min_eq_left h, Nat.sub_self]
  rfl
theorem insT_old (t : T) {i r : Nat} (h : i ≤ t.rows.length) : (insT t i).rows.getD (if i ≤ r then r + 1 else r) dR = t.rows.getD r dR := by
  show (t.rows.take i ++ ⟨[], false⟩ :: t.rows.drop i).getD _ dR = _
  rw [List.getD_eq_getElem?_getD, List.getD_eq_getElem?_getD]
  split
  · rw [List.getElem?_append_right (by rw [List.length_take]; omega), List.length_take, Nat.min_eq_left h, show r + 1 - i = (r - i) + 1 by omega, List.getElem?_cons_succ, List.getElem?_drop, show i + (r - i) = r by omega]
  · rw [List.getElem?_append_left (by rw [List.length_take]; omega), List.getElem?_take_of_lt (by omega)]
theorem insT_part {t : T} (hk : tblB t = true) {at' : Int} (hp : plcB t at' = true) : partOf (insT t at'.toNat) at' = 1 := by
  have ho := insT_ok hk hp
  obtain ⟨i, rfl, h1, h2, h3, h4⟩ := plcB_iff hp hk
  rw [Int.toNat_natCast] at ho ⊢
  have hb := tblB_bounds hk
  unfold partOf
  rw [insT_len, if_pos ⟨ho, inB_true (by omega) (by push_cast; omega)⟩]
  have e1 : (insT t i).head = t.head := rfl
  have e2 : (insT t i).foot = t.foot := rfl
  rw [e1, e2, if_neg (by omega), if_neg (by push_cast; omega)]
theorem cnTo_all (rs : List R) : cnTo rs rs.length = (rs.map (fun x => x.cells.length)).sum := by rw [cnTo, List.take_length]
theorem insT_cells (t : T) (i : Nat) : cnTo (insT t i).rows (insT t i).rows.length = cnTo t.rows t.rows.length := by
  rw [cnTo_all, cnTo_all]
  show ((t.rows.take i ++ ⟨[], false⟩ :: t.rows.drop i).map _).sum = _
  rw [List.map_append, List.sum_append, List.map_cons, List.sum_cons]
  show _ + (0 + _) = _
  rw [Nat.zero_add, ← List.sum_append, ← List.map_append, List.take_append_drop]
end Go.Proofs.Ytggmjiddadjilak
namespace Go.Proofs.Ytggmjiddadjilak
open Go.RowKit

theorem wp_append_fits {P : Program} (w : World) {o : Oper} {a : Act} {K : Act → World → Prop} {Q : Exit → Act → World → Prop} (s x : Operand) (t : TypeId)
    (ho : o.op = .call { callee := .builtin .append, args := #[s, x], argTypes := #[t, t] })
    (base : Nat) (e : TypeId) (i : TypeInfo) (size : Nat) (ht : P.underlying t = some (.slice e)) (hi : P.info? e = some i) (hsize : i.size = size)
    (g n cap : Nat) (xs : List Value) (hs : a.eval s = .slice (some ⟨g, 0, none⟩) n cap) (hown : w.ownsRow base e size (.slice (some ⟨g, 0, none⟩) n cap) n xs)
    (ad : Addr) (m c : Nat) (news : List Value) (hx : a.eval x = .slice (some ad) m c) (hl : news.length = m * size) (hnews : ∀ j u, news[j]? = some u → w.cell? (ad.add j) = some u) (h1 : ∀ u ∈ news, u.oneCell' = true) (hroom : n + m ≤ cap)
    (h : ∀ w', w'.ownsRow base e size (.slice (some ⟨g, 0, none⟩) (n + m) cap) (n + m) (xs ++ news) → w.grownBy w' (some g) → K (a.put o.dst (.slice (some ⟨g, 0, none⟩) (n + m) cap)) w') : o.wp P a w K Q := by
  obtain ⟨w', hr, h2, h3⟩ := run_append_fits (P := P) w base t o.type e i size ht hi hsize g n cap xs hown ad m c news hl hnews h1 hroom
  unfold Oper.wp execOp
  simp only [ho, resolve, invoke, builtin, Sem.run_bind, Sem.run_pure, Result.andThen_ok, List.map_toArray, List.map_cons, List.map_nil, hs, hx, hr]
  exact h w' h2 h3
theorem row_kept9 {w w' : World} {base : Nat} {e : TypeId} {sz : Nat} {v : Value} {m : Nat} {xs : List Value} (h : w.ownsRow base e sz v m xs) (k : Below w.heap.size w w') : w'.ownsRow base e sz v m xs := row_since h (.of_below k)
/-- the first cells of a row of cells -/
theorem OwnC.take {w : World} {B g n cap : Nat} {cs : List C} (h : OwnC w B (.slice (some ⟨g, 0, none⟩) n cap) cs) (hn : cs.length = n) {a : Nat} (ha : a ≤ n) : w.ownsRow B 58 11 (.slice (some ⟨g, 0, none⟩) a cap) a ((cs.take a).flatMap cellVs) := by
  rcases h.2 with ⟨e, _⟩ | ⟨g', cap', cur, e, hg, hc, a1, a2, a3, a4⟩
  · simp at e
  · simp only [Value.slice.injEq, Option.some.injEq, Addr.mk.injEq, and_true] at e
    obtain ⟨rfl, _, rfl⟩ := e
    have hl : (cs.take a).length = a := by rw [List.length_take]; omega
    refine ⟨by rw [flat_len cellVs 11 (fun _ => rfl), hl], .inr ⟨g, cap, cur, rfl, hg, hc, by omega, a2, a3, ?_⟩⟩
    have e := flat_take cellVs 11 (fun _ => rfl) (cs.take a) cur (by rw [hl, a3]; omega) (fun i hi j hj => by
      rw [hl] at hi
      have e := flat_get cellVs 11 (fun _ => rfl) cs i (by omega) j hj
      rw [← a4, List.getElem?_take_of_lt (by omega), Array.getElem?_toList] at e
      rw [e, List.getElem_take])
    rw [hl] at e
    exact e
theorem OwnC.tail {w : World} {B g n cap : Nat} {cs : List C} (h : OwnC w B (.slice (some ⟨g, 0, none⟩) n cap) cs) (hn : cs.length = n) {p : Nat} (hp : n * 11 ≤ p) (v : Value) : OwnC (w.setCell ⟨g, p, none⟩ v) B (.slice (some ⟨g, 0, none⟩) n cap) cs := by
  rcases h.2 with ⟨e, _⟩ | ⟨g', cap', cur, e, hg, hc, a1, a2, a3, a4⟩
  · simp at e
  · simp only [Value.slice.injEq, Option.some.injEq, Addr.mk.injEq, and_true] at e
    obtain ⟨rfl, _, rfl⟩ := e
    refine ⟨h.1, .inr ⟨g, cap, cur.setIfInBounds p v, by rw [hn], hg, setB hc _, a1, a2, by rw [Array.size_setIfInBounds]; exact a3, ?_⟩⟩
    rw [← a4]
    apply List.ext_getElem?
    intro k
    by_cases hk : k < cs.length * 11
    · rw [List.getElem?_take_of_lt hk, List.getElem?_take_of_lt hk, Array.getElem?_toList, Array.getElem?_toList, Array.getElem?_setIfInBounds_ne (by omega)]
    · rw [List.getElem?_eq_none (by rw [List.length_take]; omega), List.getElem?_eq_none (by rw [List.length_take]; omega)]
theorem clear_one (w : World) (ty : TypeId) (g o c : Nat) (cur : Array Value) (h : w.heap[g]? = some (.cells cur 58)) (ho : o + 11 ≤ cur.size) :
    (Builtin.clear_ #[35] ty #[.slice (some ⟨g, o, none⟩) 1 c]).run Try.prog w = .ok (.tuple #[]) (w.setCells g o [.string ⟨#[]⟩, .int .i64 0, .int .i64 0, .int .i64 0, .int .i64 0, .int .i64 0, .int .i64 0, .int .i64 0, .int .i64 0, .int .i64 0, .int .i64 0]) := by
  have hst := run_storeCells_cells (P := Try.prog) g o [.string ⟨#[]⟩, .int .i64 0, .int .i64 0, .int .i64 0, .int .i64 0, .int .i64 0, .int .i64 0, .int .i64 0, .int .i64 0, .int .i64 0, .int .i64 0] 0 w (fun j hj => by
    obtain ⟨v, hv⟩ := someB (p := o + 0 + j) h (by simp at hj; omega)
    rw [hv]; rfl) (fun j _ => freeB h) (by simp [Value.oneCell'])
  simp only [Nat.add_zero] at hst
  have hv : ∀ w, (zeroValue 58).run Try.prog w = .ok (Value.agg #[.string ⟨#[]⟩, .int .i64 0, .int .i64 0, .int .i64 0, .int .i64 0, .int .i64 0, .int .i64 0, .int .i64 0, .int .i64 0, .int .i64 0, .int .i64 0]) w := Try.zeroValue58
  have hzc : (Builtin.zeroCells (Value.agg #[.string ⟨#[]⟩, .int .i64 0, .int .i64 0, .int .i64 0, .int .i64 0, .int .i64 0, .int .i64 0, .int .i64 0, .int .i64 0, .int .i64 0, .int .i64 0]).cells 1).toList = [.string ⟨#[]⟩, .int .i64 0, .int .i64 0, .int .i64 0, .int .i64 0, .int .i64 0, .int .i64 0, .int .i64 0, .int .i64 0, .int .i64 0, .int .i64 0] := by kernel_rfl
  simp [Builtin.clear_, run_underlying Try.underlying35, hv, hzc, hst]
end Go.Proofs.Ytggmjiddadjilak
namespace Go.Proofs.Ytggmjiddadjilak
open Go.RowKit

set_option maxRecDepth 100000 in
set_option maxHeartbeats 2000000 in
theorem insertRow_end (g c n vb : Nat) (xs : List Value) (B : Nat) (w : World) (h : w.ownsRow B 37 2 (.slice (some ⟨g, 0, none⟩) n c) n xs) (hn : n ≤ 8) (hB : B ≤ w.heap.size) (hv : w.heap[vb]? = some (.cells #[.slice none 0 0, .bool false] 37)) :
    Calls Try.prog 21 #[.slice (some ⟨g, 0, none⟩) n c, .int .i64 n, .slice (some ⟨vb, 0, none⟩) 1 1] w fun e w' => ∃ a9 c9, e = .returned (.slice a9 (n + 1) c9) ∧ w'.ownsRow B 37 2 (.slice a9 (n + 1) c9) (n + 1) (xs ++ [.slice none 0 0, .bool false]) ∧ w.grownBy w' (some g) := by
  obtain ⟨i0, hi0, hz0, hz1, hz2⟩ := info_parts infoRown
  have hb : n ≤ c ∧ c ≤ 9223372036854775807 := by
    rcases h.2 with ⟨e, _⟩ | ⟨g', cap', cur, e, hg, hc, a1, a2, a3, a4⟩
    · simp at e
    · simp only [Value.slice.injEq, Option.some.injEq, Addr.mk.injEq, and_true] at e
      obtain ⟨_, _, rfl⟩ := e
      unfold maxLen at a2
      exact ⟨a1, a2⟩
  obtain ⟨hnc, hcm⟩ := hb
  have HO := Hid.intro h
  have HV := Hid.intro hv
  clear h hv
  go_enter Try.func21, Try.ntmps21
  go_wp2_with (at_builtin; refine wpList_append_own _ rfl _ _ 24 rfl B 37 i0 _ 2 32 Try.underlying24 hi0 hz0 hz1 hz2 rfl (by decide) _ _ _ rfl HO.out ⟨vb, 0, none⟩ 1 1 [.slice none 0 0, .bool false] rfl rfl (news_at HV.out) (by simp [Value.oneCell']) (by unfold maxLen; omega) (by omega) hB ?_; intro v' w5 hown' hgrow' _; obtain ⟨a9, c9, rfl, _⟩ := row_form hown')
  all_goals
    go_ret
    exact ⟨a9, c9, rfl, hown', hgrow'⟩
end Go.Proofs.Ytggmjiddadjilak
namespace Go.Proofs.Ytggmjiddadjilak
open Go.RowKit

theorem run_copy_wide {P : Program} (w : World) (dT sT ty elem : TypeId) (sz g o dLen dCap : Nat) (a : Addr) (sLen sCap : Nat) (cur : Array Value) (t : TypeId) (cs : List Value)
    (hu : P.underlying dT = some (.slice elem)) (hs : (P.info? elem).map (·.size) = some sz)
    (hg : w.heap[g]? = some (.cells cur t)) (hn : cs.length = Nat.min sLen dLen * sz)
    (hsrc : ∀ j v, cs[j]? = some v → w.cell? (a.add j) = some v) (hfit : o + cs.length ≤ cur.size) (h1 : ∀ v ∈ cs, v.oneCell' = true) :
    (Builtin.copy_ #[dT, sT] ty #[.slice (some ⟨g, o, none⟩) dLen dCap, .slice (some a) sLen sCap]).run P w =
      .ok (goInt (Nat.min sLen dLen)) (w.setRow g (cur.toList.take o ++ cs ++ cur.toList.drop (o + cs.length)).toArray) := by
  have hst := run_storeCells_at P g o t cs 0 cur w hg (by simpa using hfit) h1
  cases hq : P.info? elem with
  | none => simp [hq] at hs
  | some i =>
    have hi : i.size = sz := by simpa [hq] using hs
    have hl := run_firstCells_some (P := P) w i.size (Nat.min sLen dLen) a sLen sCap cs (by rw [hi]; exact hn) hsrc
    simp [Builtin.copy_, run_underlying hu, Builtin.lenOf, sizeOf, typeInfo, hq, hl, hst]
theorem run_copy_nought {P : Program} (w : World) (dT sT ty elem : TypeId) (sz : Nat) (d a : Option Addr) (dLen dCap sLen sCap : Nat) (hu : P.underlying dT = some (.slice elem)) (hs : (P.info? elem).map (·.size) = some sz) (hn : Nat.min sLen dLen = 0) :
    (Builtin.copy_ #[dT, sT] ty #[.slice d dLen dCap, .slice a sLen sCap]).run P w = .ok (goInt 0) w := by
  cases hq : P.info? elem with
  | none => simp [hq] at hs
  | some i =>
    have hl : ∀ (x : Addr), (loadCells x 0).run P w = .ok #[] w := fun x => by simpa using run_loadCells_list (P := P) w x [] (by simp)
    cases d <;> cases a <;> simp [Builtin.copy_, run_underlying hu, Builtin.lenOf, Builtin.firstCells, sizeOf, typeInfo, hq, hn, storeCells, hl]
end Go.Proofs.Ytggmjiddadjilak
namespace Go.Proofs.Ytggmjiddadjilak
open Go.RowKit

theorem ins_row {α : Type} (C xs : List α) (a b : α) (i n c : Nat) (hx : C.take (n * 2) = xs) (hC : C.length = c * 2) (hi : i < n) (hc : n + 1 ≤ c) (A1 : List α) (hA : A1 = C.take ((i + 1) * 2) ++ xs.drop (i * 2) ++ C.drop ((i + 1) * 2 + (xs.drop (i * 2)).length)) :
    (A1.take (i * 2) ++ [a, b] ++ A1.drop (i * 2 + [a, b].length)).take ((n + 1) * 2) = xs.take (i * 2) ++ [a, b] ++ xs.drop (i * 2) ∧ (A1.take (i * 2) ++ [a, b] ++ A1.drop (i * 2 + [a, b].length)).length = c * 2 ∧ A1.length = c * 2 := by
  have hxl : xs.length = n * 2 := by rw [← hx, List.length_take, hC]; omega
  have e1 : A1.take (i * 2) = xs.take (i * 2) := by
    rw [hA, List.append_assoc, List.take_append_of_le_length (by rw [List.length_take, hC]; omega), List.take_take, ← hx, List.take_take]
    congr 1
    omega
  have e2 : A1.drop (i * 2 + [a, b].length) = xs.drop (i * 2) ++ C.drop ((i + 1) * 2 + (xs.drop (i * 2)).length) := by
    rw [hA, List.append_assoc]
    exact List.drop_left' (by rw [List.length_take, hC]; show _ = i * 2 + 2; omega)
  have hl : A1.length = c * 2 := by
    rw [hA]
    simp only [List.length_append, List.length_take, List.length_drop, hC, hxl]
    omega
  refine ⟨?_, ?_, hl⟩
  · rw [e1, e2, ← List.append_assoc]
    exact List.take_left' (by simp only [List.length_append, List.length_take, List.length_drop, hxl, List.length_cons, List.length_nil]; omega)
  · rw [e1, e2]
    simp only [List.length_append, List.length_take, List.length_drop, hxl, hC, List.length_cons, List.length_nil]
    omega
set_option maxRecDepth 100000 in
set_option maxHeartbeats 4000000 in
theorem insertRow_room (g c n i vb : Nat) (xs : List Value) (B : Nat) (w : World) (h : w.ownsRow B 37 2 (.slice (some ⟨g, 0, none⟩) n c) n xs) (h1x : ∀ u ∈ xs, u.oneCell' = true) (hi : i < n) (hroom : n + 1 ≤ c) (hvg : vb ≠ g) (hv : w.heap[vb]? = some (.cells #[.slice none 0 0, .bool false] 37)) :
    Calls Try.prog 21 #[.slice (some ⟨g, 0, none⟩) n c, .int .i64 i, .slice (some ⟨vb, 0, none⟩) 1 1] w fun e w' => e = .returned (.slice (some ⟨g, 0, none⟩) (n + 1) c) ∧ w'.ownsRow B 37 2 (.slice (some ⟨g, 0, none⟩) (n + 1) c) (n + 1) (xs.take (i * 2) ++ [.slice none 0 0, .bool false] ++ xs.drop (i * 2)) ∧ w.grownBy w' (some g) := by
  obtain ⟨i0, hi0, hz0, hz1, hz2⟩ := info_parts infoRown
  rcases h.2 with ⟨e, _⟩ | ⟨g', cap', cur, e, hg, hc, a1, a2, a3, a4⟩
  · simp at e
  simp only [Value.slice.injEq, Option.some.injEq, Addr.mk.injEq, and_true] at e
  obtain ⟨rfl, _, rfl⟩ := e
  unfold maxLen at a2
  have hxl : xs.length = n * 2 := h.1
  have hsz : (Try.prog.info? 37).map (·.size) = some 2 := by rw [hi0]; simp [hz1]
  have hzs : ∀ w, (Go.sizeOf 37).run Try.prog w = .ok 2 w := fun w => by simp [Go.sizeOf, typeInfo, hi0, hz1]
  have hov : ∀ (W : World), W.heap[g]? = some (.cells cur 37) → W.heap[vb]? = some (.cells #[.slice none 0 0, .bool false] 37) → ∀ o lb cb, (callFunc 35 #[.slice (some ⟨vb, 0, none⟩) 1 1, .slice (some ⟨g, o, none⟩) lb cb]).run Try.prog W = .ok (.value (.bool false)) W := fun W hW1 hW2 o lb cb => by
    rw [run_callFunc_extern Try.func35 (by kernel_rfl) (by kernel_rfl) (by kernel_rfl) (e := Extern.SlicesOverlaps.overlaps #[24, 24] #[4]) (by kernel_rfl),
      Lib.run_overlaps_apart W 24 4 37 Try.underlying24 2 hzs ⟨vb, 0, none⟩ ⟨g, o, none⟩ 1 1 lb cb hvg 37 37 2 (c * 2) (by simp [World.shape?, hW2]) (by simp [World.shape?, hW1, a3]) (by omega) (freeB hW2) (freeB hW2)]
    rfl
  obtain ⟨L1, hL1⟩ : ∃ L1, L1 = cur.toList.take ((i + 1) * 2) ++ xs.drop (i * 2) ++ cur.toList.drop ((i + 1) * 2 + (xs.drop (i * 2)).length) := ⟨_, rfl⟩
  have hCl : cur.toList.length = c * 2 := by rw [Array.length_toList]; exact a3
  obtain ⟨hT, hLn, hL1n⟩ := ins_row cur.toList xs (.slice none 0 0) (.bool false) i n c a4 hCl hi hroom L1 hL1
  have hdl : (xs.drop (i * 2)).length = (n - i) * 2 := by rw [List.length_drop, hxl]; omega
  have hcp1 : ∀ ty dc sc, (Builtin.copy_ #[24, 24] ty #[.slice (some ⟨g, (i + 1) * 2, none⟩) (n - i) dc, .slice (some ⟨g, i * 2, none⟩) (n + 1 - i) sc]).run Try.prog w.drew = .ok (goInt (Nat.min (n + 1 - i) (n - i))) (w.drew.setRow g L1.toArray) := fun ty dc sc => by
    rw [hL1]
    exact run_copy_wide w.drew _ _ ty 37 2 g ((i + 1) * 2) (n - i) dc ⟨g, i * 2, none⟩ (n + 1 - i) sc cur 37 (xs.drop (i * 2)) Try.underlying24 hsz hc (by rw [hdl]; simp only [Nat.min_def]; split <;> omega)
      (fun j v hj => by
        rw [Addr.add_lit, World.cell?_drew, cellB hc]
        rw [List.getElem?_drop, ← a4, List.getElem?_take] at hj
        split at hj
        · rw [← Array.getElem?_toList]; exact hj
        · cases hj)
      (by rw [hdl, a3]; omega) (fun v hv => h1x v (List.mem_of_mem_drop hv))
  obtain ⟨W1, hW1⟩ : ∃ W1, W1 = w.drew.setRow g L1.toArray := ⟨_, rfl⟩
  have hg1 : W1.heap[g]? = some (.cells L1.toArray 37) := by rw [hW1]; exact setRow_heap w.drew g cur _ _ _ hc
  have hv1 : W1.heap[vb]? = some (.cells #[.slice none 0 0, .bool false] 37) := by rw [hW1]; exact (setRow_other w.drew g vb _ hvg).trans hv
  obtain ⟨A2, hA2⟩ : ∃ A2, A2 = (L1.take (i * 2) ++ [Value.slice none 0 0, Value.bool false] ++ L1.drop (i * 2 + 2)).toArray := ⟨_, rfl⟩
  have hcp2 : ∀ (W : World), W.heap = W1.heap → ∀ ty dc, (Builtin.copy_ #[24, 24] ty #[.slice (some ⟨g, i * 2, none⟩) (n + 1 - i) dc, .slice (some ⟨vb, 0, none⟩) 1 1]).run Try.prog W = .ok (goInt (Nat.min 1 (n + 1 - i))) (W.setRow g A2) := fun W hW ty dc => by
    have hgW : W.heap[g]? = some (.cells L1.toArray 37) := by rw [hW]; exact hg1
    have hvW : W.heap[vb]? = some (.cells #[.slice none 0 0, .bool false] 37) := by rw [hW]; exact hv1
    rw [hA2]
    exact run_copy_wide W _ _ ty 37 2 g (i * 2) (n + 1 - i) dc ⟨vb, 0, none⟩ 1 1 L1.toArray 37 [.slice none 0 0, .bool false] Try.underlying24 hsz hgW (by show 2 = _; simp only [Nat.min_def]; split <;> omega) (news_at hvW) (by simp; omega) (by simp [Value.oneCell'])
  have HF : Hid (∀ W : World, W.heap = W1.heap → W.os = w.os → W.tape = w.tape → W.output = w.output → (W.setRow g A2).ownsRow B 37 2 (.slice (some ⟨g, 0, none⟩) (n + 1) c) (n + 1) (xs.take (i * 2) ++ [.slice none 0 0, .bool false] ++ xs.drop (i * 2)) ∧ w.grownBy (W.setRow g A2) (some g)) := fun W hW ho ht hu => by
    have hgW : W.heap[g]? = some (.cells L1.toArray 37) := by rw [hW]; exact hg1
    rw [hA2]
    refine ⟨⟨by rw [← hT, List.length_take, hLn]; omega, .inr ⟨g, c, _, rfl, hg, setRow_heap W g _ _ _ _ hgW, hroom, by unfold maxLen; exact a2, by rw [List.size_toArray]; exact hLn, hT⟩⟩, ⟨ho, ht, hu, ?_, fun k hk hkg => ?_⟩⟩
    · have : W.heap.size = w.heap.size := by rw [hW, hW1]; simp [World.setRow]
      simp [World.setRow, this]
    · rw [setRow_other W g k _ (fun e => hkg (by rw [e])), hW, hW1]
      exact setRow_other w.drew g k _ (fun e => hkg (by rw [e]))
  have hz1' : ¬ ((i : Int) = (n : Int)) := by omega
  have hb2 : ¬ (c = i + 1) := by omega
  have hb4 : ¬ (c = i) := by omega
  have hin : i ≤ n := by omega
  have hb3 : (i : Int) ≤ (n : Int) + 1 := by omega
  have mixed : Try.prog.follows .mixedOrders = true := by kernel_rfl
  have hw1 : IntKind.i64.wrap ((i : Int) + 1) = (i : Int) + 1 := by rw [IntKind.wrap_i64]; omega
  have hb1 : (0 : Int) ≤ (i : Int) + 1 := by omega
  have htn : ((i : Int) + 1).toNat = i + 1 := by omega
  have hb5 : (i : Int) + 1 ≤ (n : Int) + 1 := by omega
  have HO1 := hov w hc hv
  rw [← hW1] at hcp1
  have HOs : Hid (W1.os = w.os) := by show _ = _; rw [hW1]; rfl
  have HTp : Hid (W1.tape = w.tape) := by show _ = _; rw [hW1]; rfl
  have HOu : Hid (W1.output = w.output) := by show _ = _; rw [hW1]; rfl
  clear hA2 hL1 hT hLn hL1n hCl hdl hg1 hv1 hov hc hv a4 h h1x hW1 hzs
  go_enter Try.func21, Try.ntmps21
  go_wp2_with (simp only [HO1])
  go_region_law_o (refine step_copy_runI rfl _ _ 24 24 rfl _ _ (by simp [Act.eval, Act.put]) (by simp [Act.eval, Act.put]) (hcp1 _ _ _) ?_)
  go_wp2_with (at_builtin; refine wpList_copy_runI _ rfl _ _ 24 24 rfl _ _ rfl rfl (hcp2 _ rfl _ _) ?_)
  go_ret
  exact ⟨rfl, HF.out _ rfl HOs.out HTp.out HOu.out⟩
end Go.Proofs.Ytggmjiddadjilak
