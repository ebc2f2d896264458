/-
  PROVED HERE: what the program's and the model's GrdFind and GrdAt answer at a grid that lies in memory: the first cell of a kind; nothing that was in memory is turned.
-/
import Derived.Test.YtfkfgmfahoeaoatGrdTo
namespace Go.Proofs.Ytfkfgmfahoeaoat
open Go.RowKit

theorem ret_boolG {a b : Bool} (h : a = b) : Ending.returned (.bool a) = .returned (.bool b) := by rw [h]
def isIn (row ins : Int) (x : GC) : Bool := (x.row == row) && (x.ins == ins)
/-- whether a place is one of so many from a first one on -/
def amongB (x first many : Int) : Bool := decide (first ≤ x) && decide (0 < many) && decide (x - first < many)
def holdsB (row col : Int) (x : GC) : Bool := amongB row x.row x.rows && amongB col x.col x.cols

theorem lt_of_blockG {w : World} {g : Nat} {o : Obj} (h : w.heap[g]? = some o) : g < w.heap.size := (Array.getElem?_eq_some_iff.1 h).1
theorem l1Among_any (x f m : Int) (hx : I64 x) (hf : I64 f) (hm : I64 m) (w : World) :
    Calls Try.prog 32 #[.int .i64 x, .int .i64 f, .int .i64 m] w fun e w' => e = .returned (.bool (amongB x f m)) ∧ w' = w := by
  unfold I64 at hx hf hm
  by_cases h1 : x < f
  · have e : amongB x f m = false := by simp [amongB]; omega
    rw [e]
    go_enter Try.func32, Try.ntmps32
    go_wp2
    go_ret
    exact ⟨rfl, rfl⟩
  · by_cases h2 : m ≤ 0
    · have e : amongB x f m = false := by simp [amongB]; omega
      rw [e]
      go_enter Try.func32, Try.ntmps32
      go_wp2
      go_ret
      exact ⟨rfl, rfl⟩
    · by_cases h3 : f < 0
      · by_cases h4 : 0 ≤ x
        · have e : amongB x f m = decide (x < m + f) := by
            have : decide (x - f < m) = decide (x < m + f) := by apply decide_eq_decide.2; omega
            simp only [amongB, this]; simp; omega
          rw [e]
          go_enter Try.func32, Try.ntmps32
          go_wp2
          go_ret
          exact ⟨rfl, rfl⟩
        · have e : amongB x f m = decide (x - f < m) := by simp [amongB]; omega
          rw [e]
          go_enter Try.func32, Try.ntmps32
          go_wp2
          go_ret
          exact ⟨rfl, rfl⟩
      · have e : amongB x f m = decide (x - f < m) := by simp [amongB]; omega
        rw [e]
        go_enter Try.func32, Try.ntmps32
        go_wp2
        go_ret
        exact ⟨rfl, rfl⟩

theorem wrap_sub {x f : Int} (hx : -9223372036854775808 ≤ x ∧ x ≤ 9223372036854775807) (hf : -9223372036854775808 ≤ f ∧ f ≤ 9223372036854775807) (h : f ≤ x) : IntKind.u64.wrap (IntKind.u64.wrap x - IntKind.u64.wrap f) = x - f := by
  simp [IntKind.wrap, IntKind.bits, IntKind.signed]
  omega

theorem reaches_any (x f m : Int) (hx : I64 x) (hf : I64 f) (hm : I64 m) (w : World) :
    Calls Try.prog 25 #[.int .i64 f, .int .i64 m, .int .i64 x] w fun e w' => e = .returned (.bool (amongB x f m)) ∧ w' = w := by
  unfold I64 at hx hf hm
  by_cases h1 : f ≤ x
  · by_cases h2 : 0 < m
    · have e : amongB x f m = decide (x - f < m) := by simp [amongB]; omega
      rw [e]
      go_enter Try.func25, Try.ntmps25
      go_wp2
      go_ret
      exact ⟨ret_boolG (by rw [wrap_sub hx hf h1]), rfl⟩
    · have e : amongB x f m = false := by simp [amongB]; omega
      rw [e]
      go_enter Try.func25, Try.ntmps25
      go_wp2
      go_ret
      exact ⟨rfl, rfl⟩
  · have e : amongB x f m = false := by simp [amongB]; omega
    rw [e]
    go_enter Try.func25, Try.ntmps25
    go_wp2
    go_ret
    exact ⟨rfl, rfl⟩

set_option maxRecDepth 100000 in
set_option maxHeartbeats 1000000 in
theorem specGrdFind (a b : Int) (ac : Option Addr) (cc : Nat) (gs : List GC) (row ins : Int) (w : World) {z : Nat} (h : GsAt w z (.slice ac gs.length cc) gs) :
    Calls Try.prog 20 #[.agg #[.int .i64 a, .int .i64 b, .slice ac gs.length cc], .int .i64 row, .int .i64 ins] w fun e w' => e = .returned (.int .i64 (findTo (isIn row ins) gs)) ∧ Below w.heap.size w w' := by
  obtain ⟨_, _, _, hlen⟩ := At.form h
  unfold maxLen at hlen
  have H := Hid.intro (h.kept (k_alloc (Below.refl _ _) (.cells #[.int .i64 a, .int .i64 b, .slice ac gs.length cc] 29)))
  clear h
  go_enter Try.func20, Try.ntmps20
  go_wp2_with fail
  go_loop [7] (fun i => ∃ k : Nat, k ≤ gs.length ∧ i = .int .i64 k ∧ Hid (∀ j, j < k → isIn row ins (gs.getD j dG) = false)) (fun i => gs.length - (intOf i).toNat)
  case atStart => exact ⟨0, Nat.zero_le _, rfl, fun j hj => absurd hj (Nat.not_lt_zero _)⟩
  case round =>
    obtain ⟨k, hk, rfl, HA⟩ := hrel
    by_cases hlt : k < gs.length
    · obtain ⟨q, off, cap', e', hc1, hc2, hbl, hx, hs⟩ := At.get H.out hlt
      simp only [Value.slice.injEq, true_and] at e'
      obtain ⟨rfl, rfl⟩ := e'
      have HH : Hid (isIn row ins (gs.getD k dG) = true → findTo (isIn row ins) gs = (k : Int)) := fun hp => findTo_hit hlt HA.out hp
      have HN : Hid (isIn row ins (gs.getD k dG) = false → ∀ j, j < k + 1 → isIn row ins (gs.getD j dG) = false) := fun hp j hj => by
        rcases Nat.lt_or_eq_of_le (Nat.lt_succ_iff.1 hj) with h1 | rfl
        · exact HA.out j h1
        · exact hp
      generalize gs.getD k dG = x at hx hs HH HN
      obtain ⟨x0, x1, x2, x3, x4⟩ := hx
      unfold maxLen at hc2
      clear hs x1 x2 x3
      cases h1 : (x.row == row) with
      | false =>
        have HF := Hid.intro (HN.out (by simp [isIn, h1]))
        clear HH HN HA
        go_wp2
        go_round
        case rel => exact ⟨k + 1, by omega, by go_num, HF⟩
        case measure => simp [intOf]; omega
      | true =>
        cases h2 : (x.ins == ins) with
        | false =>
          have HF := Hid.intro (HN.out (by simp [isIn, h2]))
          clear HH HN HA
          go_wp2
          go_round
          case rel => exact ⟨k + 1, by omega, by go_num, HF⟩
          case measure => simp [intOf]; omega
        | true =>
          have HF := Hid.intro (HH.out (by simp only [isIn, h1, h2, Bool.and_self]))
          clear HH HN HA
          go_wp2
          go_ret
          exact ⟨by rw [HF.out]; rfl, k_alloc (Below.refl _ _) _⟩
    · obtain rfl : k = gs.length := by omega
      have HF := Hid.intro (findTo_none HA.out)
      clear HA
      go_wp2
      go_ret
      exact ⟨by rw [HF.out]; rfl, k_alloc (Below.refl _ _) _⟩

set_option maxRecDepth 100000 in
set_option maxHeartbeats 1000000 in
theorem implGrdFind (a b : Int) (ac : Option Addr) (cc : Nat) (gs : List GC) (row ins : Int) (w : World) {z : Nat} (h : GsAt w z (.slice ac gs.length cc) gs) :
    Calls Try.prog 21 #[.agg #[.int .i64 a, .int .i64 b, .slice ac gs.length cc], .int .i64 row, .int .i64 ins] w fun e w' => e = .returned (.int .i64 (findTo (isIn row ins) gs)) ∧ Below w.heap.size w w' := by
  obtain ⟨_, _, _, hlen⟩ := At.form h
  unfold maxLen at hlen
  have H := Hid.intro h
  clear h
  go_enter Try.func21, Try.ntmps21
  go_wp2_with fail
  go_loopw [12] (fun i W => ∃ k : Nat, k ≤ gs.length ∧ i = .int .i64 k ∧ Hid (∀ j, j < k → isIn row ins (gs.getD j dG) = false) ∧ Hid (Below w.heap.size w W)) (fun i _ => gs.length - (intOf i).toNat)
  case atStart => exact ⟨0, Nat.zero_le _, rfl, fun j hj => absurd hj (Nat.not_lt_zero _), k_alloc (Below.refl _ _) _⟩
  case round =>
    obtain ⟨k, hk, rfl, HA, HB⟩ := hrel
    by_cases hlt : k < gs.length
    · obtain ⟨q, off, cap', e', hc1, hc2, hbl, hx, hs⟩ := At.get (H.out.kept HB.out) hlt
      simp only [Value.slice.injEq, true_and] at e'
      obtain ⟨rfl, rfl⟩ := e'
      have HH : Hid (isIn row ins (gs.getD k dG) = true → findTo (isIn row ins) gs = (k : Int)) := fun hp => findTo_hit hlt HA.out hp
      have HN : Hid (isIn row ins (gs.getD k dG) = false → ∀ j, j < k + 1 → isIn row ins (gs.getD j dG) = false) := fun hp j hj => by
        rcases Nat.lt_or_eq_of_le (Nat.lt_succ_iff.1 hj) with h1 | rfl
        · exact HA.out j h1
        · exact hp
      generalize gs.getD k dG = x at hx hs HH HN
      obtain ⟨x0, x1, x2, x3, x4⟩ := hx
      unfold maxLen at hc2
      clear hs
      cases h1 : (x.row == row) with
      | false =>
        have HF := Hid.intro (HN.out (by simp [isIn, h1]))
        clear HH HN HA
        go_wp2
        go_roundw
        case rel => exact ⟨k + 1, by omega, by go_num, HF, k_alloc HB.out _⟩
        case measure => simp [intOf]; omega
      | true =>
        cases h2 : (x.ins == ins) with
        | false =>
          have HF := Hid.intro (HN.out (by simp [isIn, h2]))
          clear HH HN HA
          go_wp2
          go_roundw
          case rel => exact ⟨k + 1, by omega, by go_num, HF, k_alloc HB.out _⟩
          case measure => simp [intOf]; omega
        | true =>
          have HF := Hid.intro (HH.out (by simp only [isIn, h1, h2, Bool.and_self]))
          clear HH HN HA
          go_wp2
          go_ret
          exact ⟨by rw [HF.out]; rfl, k_alloc HB.out _⟩
    · obtain rfl : k = gs.length := by omega
      have HF := Hid.intro (findTo_none HA.out)
      clear HA
      go_wp2
      go_ret
      exact ⟨by rw [HF.out]; rfl, HB.out⟩

set_option maxRecDepth 100000 in
theorem l3Holds_any (x : GC) (hx : GOk x) (row col : Int) (hr : I64 row) (hc : I64 col) (w : World) :
    Calls Try.prog 23 #[.agg #[.int .i64 x.row, .int .i64 x.col, .int .i64 x.rows, .int .i64 x.cols, .int .i64 x.ins], .int .i64 row, .int .i64 col] w fun e w' => e = .returned (.bool (holdsB row col x)) ∧ Below w.heap.size w w' := by
  obtain ⟨h0, h1, h2, h3, _⟩ := hx
  unfold holdsB
  have H1 := Hid.intro (l1Among_any row x.row x.rows hr h0 h2)
  have H2 := Hid.intro (l1Among_any col x.col x.cols hc h1 h3)
  generalize amongB row x.row x.rows = p at H1 ⊢
  generalize amongB col x.col x.cols = q at H2 ⊢
  cases p with
  | false =>
    go_enter Try.func23, Try.ntmps23
    go_wp2_with fail
    refine (H1.out _).mono ?_
    rintro e w1 ⟨rfl, rfl⟩
    go_wp2
    go_ret
    exact ⟨rfl, k_alloc (Below.refl _ _) _⟩
  | true =>
    go_enter Try.func23, Try.ntmps23
    go_wp2_with fail
    refine (H1.out _).mono ?_
    rintro e w1 ⟨rfl, rfl⟩
    go_wp2_with fail
    refine (H2.out _).mono ?_
    rintro e w1 ⟨rfl, rfl⟩
    go_wp2
    go_ret
    exact ⟨by cases q <;> rfl, k_alloc (Below.refl _ _) _⟩

set_option maxRecDepth 100000 in
set_option maxHeartbeats 1000000 in
theorem specGrdAt (a b : Int) (ac : Option Addr) (cc : Nat) (gs : List GC) (row col : Int) (hr : I64 row) (hc : I64 col) (w : World) {z : Nat} (h : GsAt w z (.slice ac gs.length cc) gs) :
    Calls Try.prog 8 #[.agg #[.int .i64 a, .int .i64 b, .slice ac gs.length cc], .int .i64 row, .int .i64 col] w fun e w' => e = .returned (.int .i64 (findTo (holdsB row col) gs)) ∧ Below w.heap.size w w' := by
  obtain ⟨_, _, _, hlen⟩ := At.form h
  unfold maxLen at hlen
  have H := Hid.intro h
  clear h
  have KA := Hid.intro (k_alloc (Below.refl w.heap.size w) (.cells #[.int .i64 a, .int .i64 b, .slice ac gs.length cc] 29))
  go_enter Try.func8, Try.ntmps8
  go_wp2_with fail
  go_loopw [7] (fun i W => ∃ k : Nat, k ≤ gs.length ∧ i = .int .i64 k ∧ Hid (∀ j, j < k → holdsB row col (gs.getD j dG) = false) ∧ Hid (Below w.heap.size w W) ∧ Hid (W.heap[w.heap.size]? = some (.cells #[.int .i64 a, .int .i64 b, .slice ac gs.length cc] 29))) (fun i _ => gs.length - (intOf i).toNat)
  case atStart => exact ⟨0, Nat.zero_le _, rfl, fun j hj => absurd hj (Nat.not_lt_zero _), KA.out, newestB _ _⟩
  case round =>
    obtain ⟨k, hk, rfl, HA, HB, HX⟩ := hrel
    have g2 : wr.cell? ⟨w.heap.size, 2, none⟩ = some (.slice ac gs.length cc) := cellB HX.out
    by_cases hlt : k < gs.length
    · obtain ⟨q, off, cap', e', hc1, hc2, hbl, hx, hs⟩ := At.get (H.out.kept HB.out) hlt
      simp only [Value.slice.injEq, true_and] at e'
      obtain ⟨rfl, rfl⟩ := e'
      have HH : Hid (holdsB row col (gs.getD k dG) = true → findTo (holdsB row col) gs = (k : Int)) := fun hp => findTo_hit hlt HA.out hp
      have HN : Hid (holdsB row col (gs.getD k dG) = false → ∀ j, j < k + 1 → holdsB row col (gs.getD j dG) = false) := fun hp j hj => by
        rcases Nat.lt_or_eq_of_le (Nat.lt_succ_iff.1 hj) with h1 | rfl
        · exact HA.out j h1
        · exact hp
      have HL := Hid.intro (l3Holds_any (gs.getD k dG) hs row col hr hc)
      generalize gs.getD k dG = x at hx HH HN HL
      obtain ⟨x0, x1, x2, x3, x4⟩ := hx
      unfold maxLen at hc2
      clear hs
      cases h1 : holdsB row col x with
      | false =>
        have HF := Hid.intro (HN.out h1)
        rw [h1] at HL
        clear HH HN HA
        go_wp2_with fail
        refine (HL.out _).mono ?_
        rintro e w1 ⟨rfl, hb1⟩
        have HB1 := Hid.intro (k_trans HB.out hb1)
        have HX1 : Hid (w1.heap[w.heap.size]? = some (.cells #[.int .i64 a, .int .i64 b, .slice (some ⟨q, off, none⟩) gs.length cc] 29)) := (hb1.block w.heap.size (lt_of_blockG HX.out)).trans HX.out
        clear hb1
        go_wp2
        go_roundw
        case rel => exact ⟨k + 1, by omega, by go_num, HF, HB1, HX1⟩
        case measure => simp [intOf]; omega
      | true =>
        have HF := Hid.intro (HH.out h1)
        rw [h1] at HL
        clear HH HN HA
        go_wp2_with fail
        refine (HL.out _).mono ?_
        rintro e w1 ⟨rfl, hb1⟩
        have HB1 := Hid.intro (k_trans HB.out hb1)
        clear hb1
        go_wp2
        go_ret
        exact ⟨by rw [HF.out]; rfl, HB1.out⟩
    · obtain rfl : k = gs.length := by omega
      have HF := Hid.intro (findTo_none HA.out)
      clear HA
      go_wp2
      go_ret
      exact ⟨by rw [HF.out]; rfl, HB.out⟩

set_option maxRecDepth 100000 in
set_option maxHeartbeats 1000000 in
theorem implGrdAt (a b : Int) (ac : Option Addr) (cc : Nat) (gs : List GC) (row col : Int) (hr : I64 row) (hc : I64 col) (w : World) {z : Nat} (h : GsAt w z (.slice ac gs.length cc) gs) :
    Calls Try.prog 10 #[.agg #[.int .i64 a, .int .i64 b, .slice ac gs.length cc], .int .i64 row, .int .i64 col] w fun e w' => e = .returned (.int .i64 (findTo (holdsB row col) gs)) ∧ Below w.heap.size w w' := by
  obtain ⟨_, _, _, hlen⟩ := At.form h
  unfold maxLen at hlen
  have H := Hid.intro h
  clear h
  go_enter Try.func10, Try.ntmps10
  go_wp2_with fail
  go_loopw [12] (fun i W => ∃ k : Nat, k ≤ gs.length ∧ i = .int .i64 k ∧ Hid (∀ j, j < k → holdsB row col (gs.getD j dG) = false) ∧ Hid (Below w.heap.size w W)) (fun i _ => gs.length - (intOf i).toNat)
  case atStart => exact ⟨0, Nat.zero_le _, rfl, fun j hj => absurd hj (Nat.not_lt_zero _), k_alloc (Below.refl _ _) _⟩
  case round =>
    obtain ⟨k, hk, rfl, HA, HB⟩ := hrel
    by_cases hlt : k < gs.length
    · obtain ⟨q, off, cap', e', hc1, hc2, hbl, hx, hs⟩ := At.get (H.out.kept HB.out) hlt
      simp only [Value.slice.injEq, true_and] at e'
      obtain ⟨rfl, rfl⟩ := e'
      have HH : Hid (holdsB row col (gs.getD k dG) = true → findTo (holdsB row col) gs = (k : Int)) := fun hp => findTo_hit hlt HA.out hp
      have HN : Hid (holdsB row col (gs.getD k dG) = false → ∀ j, j < k + 1 → holdsB row col (gs.getD j dG) = false) := fun hp j hj => by
        rcases Nat.lt_or_eq_of_le (Nat.lt_succ_iff.1 hj) with h1 | rfl
        · exact HA.out j h1
        · exact hp
      generalize gs.getD k dG = x at hx hs HH HN
      obtain ⟨x0, x1, x2, x3, x4⟩ := hx
      obtain ⟨b0, b1, b2, b3, _⟩ := hs
      have H1 := Hid.intro (reaches_any row x.row x.rows hr b0 b2)
      have H2 := Hid.intro (reaches_any col x.col x.cols hc b1 b3)
      unfold maxLen at hc2
      clear b0 b1 b2 b3
      cases h1 : amongB row x.row x.rows with
      | false =>
        have HF := Hid.intro (HN.out (by simp only [holdsB, h1, Bool.false_and]))
        rw [h1] at H1
        clear HH HN HA
        go_wp2_with fail
        refine (H1.out _).mono ?_
        rintro e w1 ⟨rfl, rfl⟩
        go_wp2
        go_roundw
        case rel => exact ⟨k + 1, by omega, by go_num, HF, k_alloc HB.out _⟩
        case measure => simp [intOf]; omega
      | true =>
        rw [h1] at H1
        cases h2 : amongB col x.col x.cols with
        | false =>
          have HF := Hid.intro (HN.out (by simp only [holdsB, h2, Bool.and_false]))
          rw [h2] at H2
          clear HH HN HA
          go_wp2_with fail
          refine (H1.out _).mono ?_
          rintro e w1 ⟨rfl, rfl⟩
          go_wp2_with fail
          refine (H2.out _).mono ?_
          rintro e w1 ⟨rfl, rfl⟩
          go_wp2
          go_roundw
          case rel => exact ⟨k + 1, by omega, by go_num, HF, k_alloc HB.out _⟩
          case measure => simp [intOf]; omega
        | true =>
          have HF := Hid.intro (HH.out (by simp only [holdsB, h1, h2, Bool.and_self]))
          rw [h2] at H2
          clear HH HN HA
          go_wp2_with fail
          refine (H1.out _).mono ?_
          rintro e w1 ⟨rfl, rfl⟩
          go_wp2_with fail
          refine (H2.out _).mono ?_
          rintro e w1 ⟨rfl, rfl⟩
          go_wp2
          go_ret
          exact ⟨by rw [HF.out]; rfl, k_alloc HB.out _⟩
    · obtain rfl : k = gs.length := by omega
      have HF := Hid.intro (findTo_none HA.out)
      clear HA
      go_wp2
      go_ret
      exact ⟨by rw [HF.out]; rfl, HB.out⟩
end Go.Proofs.Ytfkfgmfahoeaoat
