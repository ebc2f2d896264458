/-
  PROVED HERE: small facts on places of a grid, for the other texts of this claim. Also: what the program's GrdAt answers at a grid that lies in memory: the first cell that has a slot; nothing that was in memory is turned. Also: the laws' own pwOk says true; nothing in memory is turned. Also: small facts on a drawn table's grid: a slot is of the cell that has it and of no other; a cell is over no more rows than its part has, and ends with its part where it is cut.
-/
import Derived.Test.YtgcobajekffmoabB20
namespace Go.Proofs.Ytgcobajekffmoab
open Go.RowKit

theorem ret_boolG {a b : Bool} (h : a = b) : Ending.returned (.bool a) = .returned (.bool b) := by rw [h]
def isIn (row ins : Int) (x : GC) : Bool := (x.row == row) && (x.ins == ins)
/-- whether a place is one of so many from a first one on -/
def amongB (x first many : Int) : Bool := decide (first ≤ x) && decide (0 < many) && decide (x - first < many)
def holdsB (row col : Int) (x : GC) : Bool := amongB row x.row x.rows && amongB col x.col x.cols

theorem lt_of_blockG {w : World} {g : Nat} {o : Obj} (h : w.heap[g]? = some o) : g < w.heap.size := (Array.getElem?_eq_some_iff.1 h).1

theorem wrap_sub {x f : Int} (hx : -9223372036854775808 ≤ x ∧ x ≤ 9223372036854775807) (hf : -9223372036854775808 ≤ f ∧ f ≤ 9223372036854775807) (h : f ≤ x) : IntKind.u64.wrap (IntKind.u64.wrap x - IntKind.u64.wrap f) = x - f := by
  simp [IntKind.wrap, IntKind.bits, IntKind.signed]
  omega

end Go.Proofs.Ytgcobajekffmoab
namespace Go.Proofs.Ytgcobajekffmoab
open Go.RowKit

theorem reaches_any (x f m : Int) (hx : I64 x) (hf : I64 f) (hm : I64 m) (w : World) :
    Calls Try.prog 38 #[.int .i64 f, .int .i64 m, .int .i64 x] w fun e w' => e = .returned (.bool (amongB x f m)) ∧ w' = w := by
  unfold I64 at hx hf hm
  by_cases h1 : f ≤ x
  · by_cases h2 : 0 < m
    · have e : amongB x f m = decide (x - f < m) := by simp [amongB]; omega
      rw [e]
      go_enter Try.func38, Try.ntmps38
      go_wp2
      go_ret
      exact ⟨ret_boolG (by rw [wrap_sub hx hf h1]), rfl⟩
    · have e : amongB x f m = false := by simp [amongB]; omega
      rw [e]
      go_enter Try.func38, Try.ntmps38
      go_wp2
      go_ret
      exact ⟨rfl, rfl⟩
  · have e : amongB x f m = false := by simp [amongB]; omega
    rw [e]
    go_enter Try.func38, Try.ntmps38
    go_wp2
    go_ret
    exact ⟨rfl, rfl⟩

set_option maxRecDepth 100000 in
set_option maxHeartbeats 1000000 in
theorem implGrdAt (a b : Int) (ac : Option Addr) (cc : Nat) (gs : List GC) (row col : Int) (hr : I64 row) (hc : I64 col) (w : World) {z : Nat} (h : GsAt w z (.slice ac gs.length cc) gs) :
    Calls Try.prog 20 #[.agg #[.int .i64 a, .int .i64 b, .slice ac gs.length cc], .int .i64 row, .int .i64 col] w fun e w' => e = .returned (.int .i64 (findTo (holdsB row col) gs)) ∧ Below w.heap.size w w' := by
  obtain ⟨_, _, _, hlen⟩ := At.form h
  unfold maxLen at hlen
  have H := Hid.intro h
  clear h
  go_enter Try.func20, Try.ntmps20
  go_wp2_with fail
  go_loopw [12] (fun i W => ∃ k : Nat, k ≤ gs.length ∧ i = .int .i64 k ∧ Hid (∀ j, j < k → holdsB row col (gs.getD j dG) = false) ∧ Hid (Below w.heap.size w W)) (fun i _ => gs.length - (intOf i).toNat)
  case atStart => exact ⟨0, Nat.zero_le _, rfl, fun j hj => absurd hj (Nat.not_lt_zero _), k_alloc (Below.refl _ _) _⟩
  case round =>
    obtain ⟨k, hk, rfl, HA, HB⟩ := hrel
    by_cases hlt : k < gs.length
    · obtain ⟨q, off, cap', e', hc1, hc2, hbl, hx, hs⟩ := At.get (H.out.kept HB.out) hlt
      simp only [Value.slice.injEq, true_and] at e'
      obtain ⟨rfl, rfl⟩ := e'
      have HH : Hid (holdsB row col (gs.getD k dG) = true → findTo (holdsB row col) gs = (k : Int)) := fun hp => findTo_hit hlt HA.out hp
      have HN : Hid (holdsB row col (gs.getD k dG) = false → ∀ j, j < k + 1 → holdsB row col (gs.getD j dG) = false) := fun hp j hj => by
        rcases Nat.lt_or_eq_of_le (Nat.lt_succ_iff.1 hj) with h1 | rfl
        · exact HA.out j h1
        · exact hp
      generalize gs.getD k dG = x at hx hs HH HN
      obtain ⟨x0, x1, x2, x3, x4⟩ := hx
      obtain ⟨b0, b1, b2, b3, _⟩ := hs
      have H1 := Hid.intro (reaches_any row x.row x.rows hr b0 b2)
      have H2 := Hid.intro (reaches_any col x.col x.cols hc b1 b3)
      unfold maxLen at hc2
      clear b0 b1 b2 b3
      cases h1 : amongB row x.row x.rows with
      | false =>
        have HF := Hid.intro (HN.out (by simp only [holdsB, h1, Bool.false_and]))
        rw [h1] at H1
        clear HH HN HA
        go_wp2_with fail
        refine (H1.out _).mono ?_
        rintro e w1 ⟨rfl, rfl⟩
        go_wp2
        go_roundw
        case rel => exact ⟨k + 1, by omega, by go_num, HF, k_alloc HB.out _⟩
        case measure => simp [intOf]; omega
      | true =>
        rw [h1] at H1
        cases h2 : amongB col x.col x.cols with
        | false =>
          have HF := Hid.intro (HN.out (by simp only [holdsB, h2, Bool.and_false]))
          rw [h2] at H2
          clear HH HN HA
          go_wp2_with fail
          refine (H1.out _).mono ?_
          rintro e w1 ⟨rfl, rfl⟩
          go_wp2_with fail
          refine (H2.out _).mono ?_
          rintro e w1 ⟨rfl, rfl⟩
          go_wp2
          go_roundw
          case rel => exact ⟨k + 1, by omega, by go_num, HF, k_alloc HB.out _⟩
          case measure => simp [intOf]; omega
        | true =>
          have HF := Hid.intro (HH.out (by simp only [holdsB, h1, h2, Bool.and_self]))
          rw [h2] at H2
          clear HH HN HA
          go_wp2_with fail
          refine (H1.out _).mono ?_
          rintro e w1 ⟨rfl, rfl⟩
          go_wp2_with fail
          refine (H2.out _).mono ?_
          rintro e w1 ⟨rfl, rfl⟩
          go_wp2
          go_ret
          exact ⟨by rw [HF.out]; rfl, k_alloc HB.out _⟩
    · obtain rfl : k = gs.length := by omega
      have HF := Hid.intro (findTo_none HA.out)
      clear HA
      go_wp2
      go_ret
      exact ⟨by rw [HF.out]; rfl, HB.out⟩

end Go.Proofs.Ytgcobajekffmoab
namespace Go.Proofs.Ytgcobajekffmoab
open Go.RowKit

theorem abcOk : txtOkB ⟨#[97, 98, 32, 99]⟩ = true := by decide +kernel
theorem pwOk_any (w : World) : Calls Try.prog 12 #[] w fun e w' => e = .returned (.bool true) ∧ w' = w := by
  go_enter Try.func12, Try.ntmps12
  go_wp2_with fail
  refine (implTxtOk _ _ (by unfold maxLen; decide)).mono ?_
  rw [abcOk]
  rintro e w1 ⟨rfl, rfl⟩
  go_wp2
  go_ret
  exact ⟨rfl, rfl⟩
end Go.Proofs.Ytgcobajekffmoab
namespace Go.Proofs.Ytgcobajekffmoab

theorem freeG_take_succ {gs : List GC} {k : Nat} (x : GC) (h : k < gs.length) : freeG (gs.take (k + 1)) x = (freeG (gs.take k) x && !meetsB (gs.getD k dG) x) := by
  unfold freeG
  rw [List.take_succ_eq_append_getElem h, List.all_append]
  simp [List.getD, h]
theorem free_mem {gs : List GC} {x : GC} {i j : Nat} (h : freeG (gs.take i) x = true) (hj : j < i) (hi : i ≤ gs.length) : meetsB (gs.getD j dG) x = false := by
  have e : gs.getD j dG ∈ gs.take i := by
    have : j < (gs.take i).length := by rw [List.length_take]; omega
    have e2 : gs.getD j dG = (gs.take i)[j] := by simp [List.getD, show j < gs.length by omega]
    rw [e2]; exact List.getElem_mem _
  have := List.all_eq_true.1 h _ e
  simpa using this
theorem holds_meet {r k : Int} {a x : GC} (ha : holdsB r k a = true) (hx : holdsB r k x = true) : meetsB a x = true := by
  simp only [holdsB, amongB, meetsB, Bool.and_eq_true, decide_eq_true_eq] at ha hx ⊢
  omega
theorem findTo_is {p : GC → Bool} {gs : List GC} {k : Nat} (h : findTo p gs = (k : Int)) : p (gs.getD k dG) = true := by
  unfold findTo at h
  split at h
  · rename_i j hj
    rw [List.findIdx?_eq_some_iff_getElem] at hj
    obtain ⟨h1, h2, _⟩ := hj
    obtain rfl : j = k := by omega
    simpa [List.getD, h1] using h2
  · omega
/-- a slot is found to be of the cell that has it, and of no other -/
theorem find_slot {gs : List GC} (hf : ∀ i, i < gs.length → freeG (gs.take i) (gs.getD i dG) = true) {i : Nat} (hi : i < gs.length) (r k : Int) : (findTo (holdsB r k) gs == (i : Int)) = holdsB r k (gs.getD i dG) := by
  cases hh : holdsB r k (gs.getD i dG) with
  | true =>
    rw [findTo_hit hi (fun j hj => ?_) hh]
    · simp
    · cases hc : holdsB r k (gs.getD j dG) with
      | false => rfl
      | true =>
        have := free_mem (hf i hi) hj (by omega)
        rw [holds_meet hc hh] at this
        cases this
  | false =>
    cases he : (findTo (holdsB r k) gs == (i : Int)) with
    | false => rfl
    | true =>
      have := findTo_is (by simpa using he)
      rw [hh] at this
      cases this
theorem part_in {t : T} (h : tblB t = true) {r : Nat} (hr : r < t.rows.length) {q : Int} (h1 : (r : Int) ≤ q) (h2 : q < endOf t r) : partOf t q = partOf t r := by
  have hb := tblB_bounds h
  have h3 : t.head + t.foot ≤ t.rows.length := by
    simp only [tblB, partsB, inB, Bool.and_eq_true, decide_eq_true_eq] at h
    omega
  unfold endOf at h2
  have hq : q < t.rows.length := by split at h2; omega; split at h2 <;> omega
  have hpr : partOf t r = if (r : Int) < t.head then 0 else if (t.rows.length : Int) - t.foot ≤ r then 2 else 1 := by unfold partOf; rw [if_pos ⟨h, inB_true (by omega) (by omega)⟩]
  have hpq : partOf t q = if q < t.head then 0 else if (t.rows.length : Int) - t.foot ≤ q then 2 else 1 := by unfold partOf; rw [if_pos ⟨h, inB_true (by omega) (by omega)⟩]
  rw [hpr, hpq]
  split at h2
  · rename_i h4
    rw [if_pos (by omega), if_pos h4]
  · rename_i h4
    split at h2
    · rename_i h5
      rw [if_neg (by omega), if_neg h4, if_pos (by omega), if_pos h5]
    · rename_i h5
      rw [if_neg (by omega), if_neg h4, if_neg (by omega), if_neg h5]
theorem part_end {t : T} (h : tblB t = true) {r : Nat} (hr : r < t.rows.length) : partOf t (endOf t r) ≠ partOf t r := by
  have hb := tblB_bounds h
  have h3 : t.head + t.foot ≤ t.rows.length := by
    simp only [tblB, partsB, inB, Bool.and_eq_true, decide_eq_true_eq] at h
    omega
  have hpr : partOf t r = if (r : Int) < t.head then 0 else if (t.rows.length : Int) - t.foot ≤ r then 2 else 1 := by unfold partOf; rw [if_pos ⟨h, inB_true (by omega) (by omega)⟩]
  by_cases he : endOf t r < t.rows.length
  · have hpe : partOf t (endOf t r) = if endOf t r < t.head then 0 else if (t.rows.length : Int) - t.foot ≤ endOf t r then 2 else 1 := by
      unfold partOf
      rw [if_pos ⟨h, inB_true (by unfold endOf; split; omega; split <;> omega) (by omega)⟩]
    rw [hpr, hpe]
    unfold endOf at he ⊢
    split at he
    · rename_i h4
      rw [if_pos h4, if_pos h4, if_neg (by omega)]
      split <;> omega
    · rename_i h4
      split at he
      · omega
      · rename_i h5
        rw [if_neg h4, if_neg h5, if_neg h4, if_neg h5, if_neg (by omega), if_pos (by omega)]
        omega
  · have hpe : partOf t (endOf t r) = -1 := by
      unfold partOf
      rw [if_neg]
      rintro ⟨_, h6⟩
      simp [inB] at h6
      omega
    rw [hpe, hpr]
    split
    · omega
    · split <;> omega
end Go.Proofs.Ytgcobajekffmoab
