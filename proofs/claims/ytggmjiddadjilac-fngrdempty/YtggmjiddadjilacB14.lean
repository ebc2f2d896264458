/-
  PROVED HERE: what is known of a table that was drawn. Also: how many cells rows have together. Also: what the program's reaches answers at every argument; nothing in memory is turned. Also: what the program's GrdAt answers at a grid that lies in memory: the first cell that has a slot; nothing that was in memory is turned. Also: the laws' own pwOk says true; nothing in memory is turned.
-/
import Derived.Test.YtggmjiddadjilacB13
import Derived.Test.YtggmjiddadjilacB4
import Derived.Test.YtggmjiddadjilacB6
import Derived.WalkLawsBesides
import Derived.WalkSpells
namespace Go.Proofs.Ytggmjiddadjilac
open Go.RowKit

/-- what is known of a table that was drawn -/
structure Drawn (t : T) : Prop where
  rows : t.rows.length ≤ 9
  cols : t.cols.length ≤ 9
  head : -1 ≤ t.head ∧ t.head ≤ 9
  foot : -1 ≤ t.foot ∧ t.foot ≤ 9
  gap : -1 ≤ t.gap ∧ t.gap ≤ 4
  cells : ∀ r ∈ t.rows, ∀ x ∈ r.cells, Cx x
  few : ∃ k, ∀ i, (t.rows.getD i dR).cells.length ≤ if i = k then 5 else 4
theorem rows_at {w : World} {base : Nat} {v : Value} {ur : List (Value × R)} (h1 : w.ownsRow base 91 2 v ur.length (ur.flatMap rowVs)) (h2 : ∀ p ∈ ur, OwnC w base p.1 p.2.cells) (hs : ∀ p ∈ ur, ∀ x ∈ p.2.cells, Cx x) : RowsAt w base v (ur.map (·.2)) := by
  have hl : (ur.map (·.2)).length = ur.length := by simp
  rcases h1.2 with ⟨rfl, hn⟩ | ⟨g, cap, cur, rfl, hg, hc, h3, h4, _⟩
  · exact ⟨none, 0, by rw [hl, hn], by rw [hl]; omega, by unfold maxLen; omega, fun i hi => by rw [hl] at hi; omega⟩
  · refine ⟨_, cap, by rw [hl], by rw [hl]; exact h3, h4, fun i hi => ⟨g, 0, rfl, (Array.getElem?_eq_some_iff.1 hc).1, hg, ?_⟩⟩
    rw [hl] at hi
    have hx : ∀ j, j < 2 → w.cell? ⟨g, i * 2 + j, none⟩ = (rowVs ur[i])[j]? := fun j hj => by
      have e := flat_get rowVs 2 (fun _ => rfl) ur i hi j hj
      rw [row_cell h1 (u := (rowVs ur[i])[j]'(by show j < 2; exact hj)) (by rw [e]; simp)]
      simp
    have hm := List.getElem_mem hi
    dsimp only
    rw [getD_get dR (by rw [hl]; exact hi), Nat.zero_add, List.getElem_map]
    exact ⟨ur[i].1, hx 0 (by omega), hx 1 (by omega), (h2 _ hm).at (fun x hx => (hs _ hm x hx).1)⟩
/-- what l20Table hands over, in numbers -/
theorem drawn_of {t : T} {ur : List (Value × R)} (h : tblB t = true) (e : t.rows = ur.map (·.2)) : (1 ≤ ur.length ∧ ur.length ≤ 8) ∧ t.cols.length ≤ 8 ∧ (0 ≤ t.head ∧ t.head ≤ 8) ∧ (0 ≤ t.foot ∧ t.foot ≤ 8) ∧ 0 ≤ t.gap ∧ t.gap ≤ 3 := by
  have hl : t.rows.length = ur.length := by rw [e]; simp
  simp only [tblB, partsB, inB, colsB, Bool.and_eq_true, decide_eq_true_eq] at h
  omega
theorem few_of {ur : List (Value × R)} (hs : ∀ p ∈ ur, p.2.cells.length ≤ 4 ∧ ∀ x ∈ p.2.cells, Cx x) : ∃ k, ∀ i, ((ur.map (·.2)).getD i dR).cells.length ≤ if i = k then 5 else 4 := by
  refine ⟨0, fun i => ?_⟩
  have h4 : ((ur.map (·.2)).getD i dR).cells.length ≤ 4 := by
    by_cases hi : i < ur.length
    · rw [getD_get dR (by simpa using hi), List.getElem_map]
      exact (hs _ (List.getElem_mem hi)).1
    · simp [List.getD, hi, dR]
  split <;> omega
theorem cells_of {ur : List (Value × R)} (hs : ∀ p ∈ ur, p.2.cells.length ≤ 4 ∧ ∀ x ∈ p.2.cells, Cx x) : ∀ r ∈ ur.map (·.2), ∀ x ∈ r.cells, Cx x := fun r hr x hx => by
  obtain ⟨p, hp, rfl⟩ := List.mem_map.1 hr
  exact (hs p hp).2 x hx
end Go.Proofs.Ytggmjiddadjilac
namespace Go.Proofs.Ytggmjiddadjilac
open Go.RowKit

def cnTo (rs : List R) (k : Nat) : Nat := ((rs.take k).map (fun x => x.cells.length)).sum
theorem cnTo_succ {rs : List R} {k : Nat} (h : k < rs.length) : cnTo rs (k + 1) = cnTo rs k + (rs.getD k dR).cells.length := by
  have e : rs.getD k dR = rs[k] := by simp [List.getD, h]
  rw [e]
  exact sum_take_succ (fun x : R => x.cells.length) rs k h
theorem cnTo_le (rs : List R) (k : Nat) : cnTo rs k ≤ totR rs := by
  have h1 := sum_take_le (fun x : R => x.cells.length) rs k
  have h2 : (rs.map (fun x : R => x.cells.length)).sum ≤ totR rs := by
    clear h1
    induction rs with
    | nil => simp [totR]
    | cons x r ih => have := totC_eq x.cells; simp [totR]; omega
  exact Nat.le_trans h1 h2
end Go.Proofs.Ytggmjiddadjilac
namespace Go.Proofs.Ytggmjiddadjilac
open Go.RowKit

theorem reaches_any (x f m : Int) (hx : I64 x) (hf : I64 f) (hm : I64 m) (w : World) :
    Calls Try.prog 39 #[.int .i64 f, .int .i64 m, .int .i64 x] w fun e w' => e = .returned (.bool (amongB x f m)) ∧ w' = w := by
  unfold I64 at hx hf hm
  by_cases h1 : f ≤ x
  · by_cases h2 : 0 < m
    · have e : amongB x f m = decide (x - f < m) := by simp [amongB]; omega
      rw [e]
      go_enter Try.func39, Try.ntmps39
      go_wp2
      go_ret
      exact ⟨ret_boolG (by rw [wrap_sub hx hf h1]), rfl⟩
    · have e : amongB x f m = false := by simp [amongB]; omega
      rw [e]
      go_enter Try.func39, Try.ntmps39
      go_wp2
      go_ret
      exact ⟨rfl, rfl⟩
  · have e : amongB x f m = false := by simp [amongB]; omega
    rw [e]
    go_enter Try.func39, Try.ntmps39
    go_wp2
    go_ret
    exact ⟨rfl, rfl⟩
end Go.Proofs.Ytggmjiddadjilac
namespace Go.Proofs.Ytggmjiddadjilac
open Go.RowKit

set_option maxRecDepth 100000 in
set_option maxHeartbeats 1000000 in
theorem implGrdAt (a b : Int) (ac : Option Addr) (cc : Nat) (gs : List GC) (row col : Int) (hr : I64 row) (hc : I64 col) (w : World) {z : Nat} (h : GsAt w z (.slice ac gs.length cc) gs) :
    Calls Try.prog 14 #[.agg #[.int .i64 a, .int .i64 b, .slice ac gs.length cc], .int .i64 row, .int .i64 col] w fun e w' => e = .returned (.int .i64 (findTo (holdsB row col) gs)) ∧ Below w.heap.size w w' := by
  obtain ⟨_, _, _, hlen⟩ := At.form h
  unfold maxLen at hlen
  have H := Hid.intro h
  clear h
  go_enter Try.func14, Try.ntmps14
  go_wp2_with fail
  go_loopw [12] (fun i W => ∃ k : Nat, k ≤ gs.length ∧ i = .int .i64 k ∧ Hid (∀ j, j < k → holdsB row col (gs.getD j dG) = false) ∧ Hid (Below w.heap.size w W)) (fun i _ => gs.length - (intOf i).toNat)
  case atStart => exact ⟨0, Nat.zero_le _, rfl, fun j hj => absurd hj (Nat.not_lt_zero _), k_alloc (Below.refl _ _) _⟩
  case round =>
    obtain ⟨k, hk, rfl, HA, HB⟩ := hrel
    by_cases hlt : k < gs.length
    · obtain ⟨q, off, cap', e', hc1, hc2, hbl, hx, hs⟩ := At.get (H.out.kept HB.out) hlt
      simp only [Value.slice.injEq, true_and] at e'
      obtain ⟨rfl, rfl⟩ := e'
      have HH : Hid (holdsB row col (gs.getD k dG) = true → findTo (holdsB row col) gs = (k : Int)) := fun hp => findTo_hit hlt HA.out hp
      have HN : Hid (holdsB row col (gs.getD k dG) = false → ∀ j, j < k + 1 → holdsB row col (gs.getD j dG) = false) := fun hp j hj => by
        rcases Nat.lt_or_eq_of_le (Nat.lt_succ_iff.1 hj) with h1 | rfl
        · exact HA.out j h1
        · exact hp
      generalize gs.getD k dG = x at hx hs HH HN
      obtain ⟨x0, x1, x2, x3, x4⟩ := hx
      obtain ⟨b0, b1, b2, b3, _⟩ := hs
      have H1 := Hid.intro (reaches_any row x.row x.rows hr b0 b2)
      have H2 := Hid.intro (reaches_any col x.col x.cols hc b1 b3)
      unfold maxLen at hc2
      clear b0 b1 b2 b3
      cases h1 : amongB row x.row x.rows with
      | false =>
        have HF := Hid.intro (HN.out (by simp only [holdsB, h1, Bool.false_and]))
        rw [h1] at H1
        clear HH HN HA
        go_wp2_with fail
        refine (H1.out _).mono ?_
        rintro e w1 ⟨rfl, rfl⟩
        go_wp2
        go_roundw
        case rel => exact ⟨k + 1, by omega, by go_num, HF, k_alloc HB.out _⟩
        case measure => simp [intOf]; omega
      | true =>
        rw [h1] at H1
        cases h2 : amongB col x.col x.cols with
        | false =>
          have HF := Hid.intro (HN.out (by simp only [holdsB, h2, Bool.and_false]))
          rw [h2] at H2
          clear HH HN HA
          go_wp2_with fail
          refine (H1.out _).mono ?_
          rintro e w1 ⟨rfl, rfl⟩
          go_wp2_with fail
          refine (H2.out _).mono ?_
          rintro e w1 ⟨rfl, rfl⟩
          go_wp2
          go_roundw
          case rel => exact ⟨k + 1, by omega, by go_num, HF, k_alloc HB.out _⟩
          case measure => simp [intOf]; omega
        | true =>
          have HF := Hid.intro (HH.out (by simp only [holdsB, h1, h2, Bool.and_self]))
          rw [h2] at H2
          clear HH HN HA
          go_wp2_with fail
          refine (H1.out _).mono ?_
          rintro e w1 ⟨rfl, rfl⟩
          go_wp2_with fail
          refine (H2.out _).mono ?_
          rintro e w1 ⟨rfl, rfl⟩
          go_wp2
          go_ret
          exact ⟨by rw [HF.out]; rfl, k_alloc HB.out _⟩
    · obtain rfl : k = gs.length := by omega
      have HF := Hid.intro (findTo_none HA.out)
      clear HA
      go_wp2
      go_ret
      exact ⟨by rw [HF.out]; rfl, HB.out⟩

end Go.Proofs.Ytggmjiddadjilac
namespace Go.Proofs.Ytggmjiddadjilac
open Go.RowKit

theorem abcOk : txtOkB ⟨#[97, 98, 32, 99]⟩ = true := by decide +kernel
theorem pwOk_any (w : World) : Calls Try.prog 13 #[] w fun e w' => e = .returned (.bool true) ∧ w' = w := by
  go_enter Try.func13, Try.ntmps13
  go_wp2_with fail
  refine (implTxtOk _ _ (by unfold maxLen; decide)).mono ?_
  rw [abcOk]
  rintro e w1 ⟨rfl, rfl⟩
  go_wp2
  go_ret
  exact ⟨rfl, rfl⟩
end Go.Proofs.Ytggmjiddadjilac
