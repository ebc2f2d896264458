/-
  PROVED HERE: what the program's columnsOk, rowOk, rowsOk and partsOk answer at a table that lies in memory; nothing that was in memory is turned. Also: small laws on blocks of cells in memory, for the other texts of this claim. Also: what a grid is in memory, for the other texts of this claim: its cells, each in its place; it stays where what was in memory stays; the first cell of a kind. Also: small facts on grids: whether a cell fits, whether cells meet, whether a grid is ok; cells meet just if they have a slot in common.
-/
import Derived.Test.YtfkkhfiiokhnaaeB5
import Derived.Test.YtfkkhfiiokhnaaeB1
import Derived.Test.YtfkkhfiiokhnaaeB3
import Derived.Laws.MakeOwn
import Derived.OwnWalk
import Derived.Lib.SmallJoins
namespace Go.Proofs.Ytfkkhfiiokhnaae
open Go.RowKit

set_option maxRecDepth 100000 in
set_option maxHeartbeats 1000000 in
theorem columnsOk_any (v : Value) (ps : List (Int × Int)) (w : World) {z : Nat} (h : ColsAt w z v ps) :
    Calls Try.prog 58 #[v] w fun e w' => e = .returned (.bool (colsB ps)) ∧ Below w.heap.size w w' := by
  obtain ⟨a, cap, rfl, hlen⟩ := At.form h
  unfold maxLen at hlen
  have H := Hid.intro h
  clear h
  by_cases h8 : (8 : Int) < (ps.length : Int)
  · have HF : Hid (colsB ps = false) := Hid.intro (by have : ¬ ps.length ≤ 8 := by omega
                                                      simp [colsB, this])
    go_enter Try.func58, Try.ntmps58
    go_wp2
    go_ret
    exact ⟨retB HF.out.symm, Below.refl _ _⟩
  · have h8' : ps.length ≤ 8 := by omega
    go_enter Try.func58, Try.ntmps58
    go_wp2_with fail
    go_loopw [4, 10] (fun _ i W => ∃ k : Nat, k ≤ ps.length ∧ i = .int .i64 k ∧ Hid (∀ j, j < k → (fun p : Int × Int => colB p.1 p.2) (ps.getD j (0, 0)) = true) ∧ Hid (Below w.heap.size w W)) (fun _ i _ => ps.length - (intOf i).toNat)
    case atStart => exact ⟨0, Nat.zero_le _, rfl, fun j hj => absurd hj (Nat.not_lt_zero _), Below.refl _ _⟩
    case round =>
      obtain ⟨k, hk, rfl, HA, HB⟩ := hrel
      by_cases hlt : k < ps.length
      · obtain ⟨b, off, cap', e', hc1, hc2, hbl, hx0, hx1⟩ := At.get (H.out.kept HB.out) hlt
        simp only [Value.slice.injEq, true_and] at e'
        obtain ⟨rfl, rfl⟩ := e'
        unfold maxLen at hc2
        cases hv : colB (ps.getD k (0, 0)).1 (ps.getD k (0, 0)).2
        · have HF : Hid (colsB ps = false) := Hid.intro (by rw [colsB, all_false (0, 0) (fun p : Int × Int => colB p.1 p.2) ps k hlt hv, Bool.and_false])
          generalize ps.getD k (0, 0) = x at hx0 hx1 hv
          go_wp2_with fail
          refine (implColumnOk _ _ _).mono ?_
          rw [hv]
          rintro e w1 ⟨rfl, hb1⟩
          have K1 := Hid.intro (k_trans (k_alloc HB.out _) hb1)
          clear hb1
          go_wp2
          go_ret
          exact ⟨retB HF.out.symm, K1.out⟩
        · have HN := Hid.intro (next_true (p := fun p : Int × Int => colB p.1 p.2) HA.out hv)
          generalize ps.getD k (0, 0) = x at hx0 hx1 hv
          go_wp2_with fail
          refine (implColumnOk _ _ _).mono ?_
          rw [hv]
          rintro e w1 ⟨rfl, hb1⟩
          have K1 := Hid.intro (k_trans (k_alloc HB.out _) hb1)
          clear hb1
          go_wp2
          go_roundw
          case rel => exact ⟨k + 1, by omega, by go_num, HN, K1⟩
          case measure => simp [intOf]; omega
      · obtain rfl : k = ps.length := by omega
        have HF : Hid (colsB ps = true) := Hid.intro (by rw [colsB, all_true (0, 0) (fun p : Int × Int => colB p.1 p.2) ps HA.out]; simp [h8'])
        go_wp2
        go_ret
        exact ⟨retB HF.out.symm, HB.out⟩

set_option maxRecDepth 100000 in
set_option maxHeartbeats 1000000 in
theorem rowOk_any (u : Value) (r : R) (w : World) {z : Nat} (h : CellsAt w z u r.cells) :
    Calls Try.prog 79 #[.agg #[u, .bool r.whole]] w fun e w' => e = .returned (.bool (rowB r)) ∧ Below w.heap.size w w' := by
  obtain ⟨a, cap, rfl, hlen⟩ := At.form h
  unfold maxLen at hlen
  have H := Hid.intro h
  clear h
  by_cases h8 : (5 : Int) < (r.cells.length : Int)
  · have HF : Hid (rowB r = false) := Hid.intro (by have : ¬ r.cells.length ≤ 5 := by omega
                                                    simp [rowB, this])
    go_enter Try.func79, Try.ntmps79
    go_wp2
    go_ret
    exact ⟨retB HF.out.symm, k_alloc (Below.refl _ _) _⟩
  · have h8' : r.cells.length ≤ 5 := by omega
    go_enter Try.func79, Try.ntmps79
    go_wp2_with fail
    go_loopw [4, 12] (fun _ i W => ∃ k : Nat, k ≤ r.cells.length ∧ i = .int .i64 k ∧ Hid (∀ j, j < k → cB (r.cells.getD j dC) = true) ∧ Hid (Below w.heap.size w W)) (fun _ i _ => r.cells.length - (intOf i).toNat)
    case atStart => exact ⟨0, Nat.zero_le _, rfl, fun j hj => absurd hj (Nat.not_lt_zero _), k_alloc (Below.refl _ _) _⟩
    case round =>
      obtain ⟨k, hk, rfl, HA, HB⟩ := hrel
      by_cases hlt : k < r.cells.length
      · obtain ⟨b, off, cap', e', hc1, hc2, hbl, hx, hs⟩ := At.get (H.out.kept HB.out) hlt
        simp only [Value.slice.injEq, true_and] at e'
        obtain ⟨rfl, rfl⟩ := e'
        unfold maxLen at hc2
        have hs' := Hid.intro hs
        cases hv : cB (r.cells.getD k dC)
        · have HF : Hid (rowB r = false) := Hid.intro (by rw [rowB, all_false dC cB r.cells k hlt hv, Bool.and_false])
          generalize r.cells.getD k dC = x at hx hs' hv
          obtain ⟨x0, x1, x2, x3, x4, x5, x6, x7, x8, x9, x10⟩ := hx
          clear hs
          go_wp2_with fail
          refine (implCellOk _ _ _ _ _ _ _ _ _ _ _ _ hs'.out).mono ?_
          rw [show cellOkB x.s x.c x.r x.a1 x.b1 x.a2 x.b2 x.a3 x.b3 x.a4 x.b4 = false from hv]
          rintro e w1 ⟨rfl, hb1⟩
          have K1 := Hid.intro (k_trans (k_alloc HB.out _) hb1)
          clear hb1
          go_wp2
          go_ret
          exact ⟨retB HF.out.symm, K1.out⟩
        · have HN := Hid.intro (next_true HA.out hv)
          generalize r.cells.getD k dC = x at hx hs' hv
          obtain ⟨x0, x1, x2, x3, x4, x5, x6, x7, x8, x9, x10⟩ := hx
          clear hs
          go_wp2_with fail
          refine (implCellOk _ _ _ _ _ _ _ _ _ _ _ _ hs'.out).mono ?_
          rw [show cellOkB x.s x.c x.r x.a1 x.b1 x.a2 x.b2 x.a3 x.b3 x.a4 x.b4 = true from hv]
          rintro e w1 ⟨rfl, hb1⟩
          have K1 := Hid.intro (k_trans (k_alloc HB.out _) hb1)
          clear hb1
          go_wp2
          go_roundw
          case rel => exact ⟨k + 1, by omega, by go_num, HN, K1⟩
          case measure => simp [intOf]; omega
      · obtain rfl : k = r.cells.length := by omega
        have HF : Hid (rowB r = true) := Hid.intro (by rw [rowB, all_true dC cB r.cells HA.out]; simp [h8'])
        go_wp2
        go_ret
        exact ⟨retB HF.out.symm, HB.out⟩

set_option maxRecDepth 100000 in
set_option maxHeartbeats 1000000 in
theorem rowsOk_any (v : Value) (rs : List R) (w : World) {z : Nat} (h : RowsAt w z v rs) :
    Calls Try.prog 59 #[v] w fun e w' => e = .returned (.bool (rs.all rowB)) ∧ Below w.heap.size w w' := by
  obtain ⟨a, cap, rfl, hlen⟩ := At.form h
  unfold maxLen at hlen
  have H := Hid.intro h
  clear h
  go_enter Try.func59, Try.ntmps59
  go_wp2_with fail
  go_loopw [4, 7] (fun _ i W => ∃ k : Nat, k ≤ rs.length ∧ i = .int .i64 k ∧ Hid (∀ j, j < k → rowB (rs.getD j dR) = true) ∧ Hid (Below w.heap.size w W)) (fun _ i _ => rs.length - (intOf i).toNat)
  case atStart => exact ⟨0, Nat.zero_le _, rfl, fun j hj => absurd hj (Nat.not_lt_zero _), Below.refl _ _⟩
  case round =>
    obtain ⟨k, hk, rfl, HA, HB⟩ := hrel
    by_cases hlt : k < rs.length
    · obtain ⟨b, off, cap', e', hc1, hc2, hbl, u, hx0, hx1, hx⟩ := At.get (H.out.kept HB.out) hlt
      simp only [Value.slice.injEq, true_and] at e'
      obtain ⟨rfl, rfl⟩ := e'
      unfold maxLen at hc2
      obtain ⟨ua, ucap, rfl, _⟩ := At.form hx
      have HX := Hid.intro hx
      clear hx
      cases hv : rowB (rs.getD k dR)
      · have HF : Hid (rs.all rowB = false) := Hid.intro (all_false dR rowB rs k hlt hv)
        generalize rs.getD k dR = x at hx0 hx1 hv HX
        go_wp2_with fail
        refine (rowOk_any _ x _ (HX.out.kept (k_alloc (Below.refl _ _) _))).mono ?_
        rw [hv]
        rintro e w1 ⟨rfl, hb1⟩
        have K1 := Hid.intro (k_trans (k_alloc HB.out _) hb1)
        clear hb1
        go_wp2
        go_ret
        exact ⟨retB HF.out.symm, K1.out⟩
      · have HN := Hid.intro (next_true HA.out hv)
        generalize rs.getD k dR = x at hx0 hx1 hv HX
        go_wp2_with fail
        refine (rowOk_any _ x _ (HX.out.kept (k_alloc (Below.refl _ _) _))).mono ?_
        rw [hv]
        rintro e w1 ⟨rfl, hb1⟩
        have K1 := Hid.intro (k_trans (k_alloc HB.out _) hb1)
        clear hb1
        go_wp2
        go_roundw
        case rel => exact ⟨k + 1, by omega, by go_num, HN, K1⟩
        case measure => simp [intOf]; omega
    · obtain rfl : k = rs.length := by omega
      have HF : Hid (rs.all rowB = true) := Hid.intro (all_true dR rowB rs HA.out)
      go_wp2
      go_ret
      exact ⟨retB HF.out.symm, HB.out⟩

set_option maxRecDepth 100000 in
set_option maxHeartbeats 1000000 in
theorem partsOk_any (vc : Value) (ar : Option Addr) (n cr : Nat) (hd ft gp : Int) (a : Option Addr) (m c : Nat) (hvc : vc = .slice a m c) (hn : n ≤ 4611686018427387903) (w : World) :
    Calls Try.prog 57 #[.agg #[vc, .int .i64 hd, .int .i64 ft, .slice ar n cr, .int .i64 gp]] w fun e w' => e = .returned (.bool (partsB n hd ft)) ∧ Below w.heap.size w w' := by
  subst hvc
  cases h1 : inB hd 0 n
  · have HF : Hid (partsB n hd ft = false) := Hid.intro (by rw [partsB, h1]; rfl)
    go_enter Try.func57, Try.ntmps57
    go_wp2_with (go_at_call 47; refine (within_any _ _ _ _).mono ?_; rintro e w' ⟨rfl, rfl⟩)
    go_ret
    exact ⟨retB HF.out.symm, k_alloc (Below.refl _ _) _⟩
  · have h1' : 0 ≤ hd ∧ hd ≤ n := of_decide_eq_true h1
    obtain ⟨g1, g2⟩ := h1'
    have HF : Hid (partsB n hd ft = inB ft 0 (n - hd)) := Hid.intro (by rw [partsB, h1]; rfl)
    go_enter Try.func57, Try.ntmps57
    go_wp2_with (go_at_call 47; refine (within_any _ _ _ _).mono ?_; rintro e w' ⟨rfl, rfl⟩)
    go_ret
    exact ⟨retB HF.out.symm, k_alloc (Below.refl _ _) _⟩
end Go.Proofs.Ytfkkhfiiokhnaae
namespace Go.Proofs.Ytfkkhfiiokhnaae
open Go.RowKit

theorem sizeSet (w : World) (p : Addr) (v : Value) : (w.setCell p v).heap.size = w.heap.size := by simp [World.setCell]
theorem newestB (w : World) (q : Obj) : (w.alloc q).heap[w.heap.size]? = some q := by show (w.heap.push q)[w.heap.size]? = _; simp
theorem cellB {w : World} {g p : Nat} {arr : Array Value} {t : TypeId} (h : w.heap[g]? = some (.cells arr t)) : w.cell? ⟨g, p, none⟩ = arr[p]? := Joins.cell_of_block h p
theorem someB {w : World} {g p : Nat} {arr : Array Value} {t : TypeId} (h : w.heap[g]? = some (.cells arr t)) (hp : p < arr.size) : ∃ v, w.cell? ⟨g, p, none⟩ = some v := ⟨_, (cellB h).trans (Array.getElem?_eq_getElem hp)⟩
theorem freeB {w : World} {g p : Nat} {arr : Array Value} {t : TypeId} (h : w.heap[g]? = some (.cells arr t)) : w.frozen? ⟨g, p, none⟩ = false := Joins.unfrozen_of_block h p
theorem setB {w : World} {g p : Nat} {arr : Array Value} {t : TypeId} (h : w.heap[g]? = some (.cells arr t)) (v : Value) : (w.setCell ⟨g, p, none⟩ v).heap[g]? = some (.cells (arr.setIfInBounds p v) t) := Joins.block_setCell h v
theorem two_next {arr : Array Value} {n k : Nat} (hs : arr.size = n * 2) (hk : k < n) (x y : Value) :
    (∀ p, p < k * 2 → ((arr.setIfInBounds (k * 2) x).setIfInBounds (k * 2 + 1) y)[p]? = arr[p]?) ∧ ((arr.setIfInBounds (k * 2) x).setIfInBounds (k * 2 + 1) y)[k * 2]? = some x ∧ ((arr.setIfInBounds (k * 2) x).setIfInBounds (k * 2 + 1) y)[k * 2 + 1]? = some y := by
  have eq : ∀ (A : Array Value) (i : Nat) (v : Value), i < A.size → (A.setIfInBounds i v)[i]? = some v := fun A i v hi => by simp [hi]
  refine ⟨fun p hp => ?_, ?_, ?_⟩
  · rw [Array.getElem?_setIfInBounds_ne (by omega), Array.getElem?_setIfInBounds_ne (by omega)]
  · rw [Array.getElem?_setIfInBounds_ne (by omega)]
    exact eq _ _ _ (by omega)
  · exact eq _ _ _ (by rw [Array.size_setIfInBounds]; omega)
/-- what is left of n behind m: -1, if that is less than nothing -/
def leftOf (n : Int) (m : Nat) : Int := if (m : Int) ≤ n then n - m else -1
theorem leftOf_pos {n : Int} {m : Nat} (h : (m : Int) ≤ n) : leftOf n m = n - m := by rw [leftOf, if_pos h]
theorem leftOf_neg {n : Int} {m : Nat} (h : ¬ (m : Int) ≤ n) : leftOf n m = -1 := by rw [leftOf, if_neg h]
theorem retI64 {a b : Int} (h : a = b) : Ending.returned (.int .i64 a) = .returned (.int .i64 b) := by rw [h]
end Go.Proofs.Ytfkkhfiiokhnaae
namespace Go.Proofs.Ytfkkhfiiokhnaae
open Go.RowKit

/-- a cell at its place -/
structure GC where
  row : Int
  col : Int
  rows : Int
  cols : Int
  ins : Int
/-- a grid -/
structure G where
  rows : Int
  cols : Int
  cells : List GC
def dG : GC := ⟨0, 0, 0, 0, 0⟩
def I64 (n : Int) : Prop := -9223372036854775808 ≤ n ∧ n ≤ 9223372036854775807
def GOk (x : GC) : Prop := I64 x.row ∧ I64 x.col ∧ I64 x.rows ∧ I64 x.cols ∧ I64 x.ins
/-- the five cells of a cell from an address on -/
def GIs (w : World) (b o : Nat) (x : GC) : Prop :=
  w.cell? ⟨b, o, none⟩ = some (.int .i64 x.row) ∧ w.cell? ⟨b, o + 1, none⟩ = some (.int .i64 x.col) ∧ w.cell? ⟨b, o + 2, none⟩ = some (.int .i64 x.rows) ∧
  w.cell? ⟨b, o + 3, none⟩ = some (.int .i64 x.cols) ∧ w.cell? ⟨b, o + 4, none⟩ = some (.int .i64 x.ins)
def GsAt (w : World) (z : Nat) (v : Value) (gs : List GC) : Prop := At w z v gs.length 5 (fun i b o => GIs w b o (gs.getD i dG) ∧ GOk (gs.getD i dG))
def GrdAt (w : World) (z : Nat) (v : Value) (g : G) : Prop := ∃ vc, v = .agg #[.int .i64 g.rows, .int .i64 g.cols, vc] ∧ GsAt w z vc g.cells

theorem GIs.since {w w' : World} {z b o : Nat} {x : GC} (h : GIs w b o x) (hb : b < w.heap.size) (hz : z ≤ b) (k : Since z w w') : GIs w' b o x := by
  unfold GIs at h ⊢
  simp only [k.cell hz hb]
  exact h
theorem GsAt.since {w w' : World} {z : Nat} {v : Value} {gs : List GC} (h : GsAt w z v gs) (k : Since z w w') : GsAt w' z v gs :=
  At.mono h k.size (Nat.le_refl _) (fun _ _ _ _ hb hz he => ⟨he.1.since hb hz k, he.2⟩)
theorem GsAt.kept {w w' : World} {z : Nat} {v : Value} {gs : List GC} (h : GsAt w z v gs) (k : Below w.heap.size w w') : GsAt w' z v gs := h.since (.of_below k)
theorem GsAt.base {w : World} {z z' : Nat} {v : Value} {gs : List GC} (h : GsAt w z v gs) (hz : z' ≤ z) : GsAt w z' v gs := At.mono h (Nat.le_refl _) hz (fun _ _ _ _ _ _ he => he)

/-- the place of the first cell of a kind; -1, if there is none -/
def findTo (p : GC → Bool) (gs : List GC) : Int := match gs.findIdx? p with | some k => (k : Int) | none => -1
theorem findTo_hit {p : GC → Bool} {gs : List GC} {k : Nat} (hk : k < gs.length) (h : ∀ i, i < k → p (gs.getD i dG) = false) (hp : p (gs.getD k dG) = true) : findTo p gs = (k : Int) := by
  have e : gs.findIdx? p = some k := by
    rw [List.findIdx?_eq_some_iff_getElem]
    refine ⟨hk, by simpa [List.getD, hk] using hp, fun j hj => ?_⟩
    have := h j hj
    simpa [List.getD, Nat.lt_trans hj hk] using this
  rw [findTo, e]
theorem findTo_none {p : GC → Bool} {gs : List GC} (h : ∀ i, i < gs.length → p (gs.getD i dG) = false) : findTo p gs = -1 := by
  have e : gs.findIdx? p = none := by
    rw [List.findIdx?_eq_none_iff]
    intro x hx
    obtain ⟨i, hi, rfl⟩ := List.mem_iff_getElem.1 hx
    have := h i hi
    simpa [List.getD, hi] using this
  rw [findTo, e]
end Go.Proofs.Ytfkkhfiiokhnaae
namespace Go.Proofs.Ytfkkhfiiokhnaae
open Go.RowKit

def boundsB (R C : Int) (n : Nat) : Bool := inB R 1 8 && (inB C 1 94 && decide (n ≤ 40))
def fitsB (R C : Int) (x : GC) : Bool := inB x.row 0 (R - 1) && (inB x.rows 1 (R - x.row) && (inB x.col 0 (C - 1) && (inB x.cols 1 (C - x.col) && inB x.ins 0 4)))
def meetsB (a b : GC) : Bool := decide (a.row < b.row + b.rows) && (decide (b.row < a.row + a.rows) && (decide (a.col < b.col + b.cols) && decide (b.col < a.col + a.cols)))
def freeG (xs : List GC) (x : GC) : Bool := xs.all fun a => !meetsB a x
def okTo (R C : Int) (gs : List GC) (k : Nat) : Bool := (List.range k).all fun i => fitsB R C (gs.getD i dG) && freeG (gs.take i) (gs.getD i dG)
def okB (g : G) : Bool := boundsB g.rows g.cols g.cells.length && okTo g.rows g.cols g.cells g.cells.length
theorem okTo_zero (R C : Int) (gs : List GC) : okTo R C gs 0 = true := rfl
theorem okTo_succ {R C : Int} {gs : List GC} {k : Nat} (h : okTo R C gs k = true) (h1 : fitsB R C (gs.getD k dG) = true) (h2 : freeG (gs.take k) (gs.getD k dG) = true) : okTo R C gs (k + 1) = true := by
  unfold okTo at h ⊢
  rw [List.range_succ, List.all_append, h]
  simp only [List.all_cons, h1, h2, List.all_nil, Bool.and_self]
theorem okTo_false {R C : Int} {gs : List GC} {k n : Nat} (hk : k < n) (h : (fitsB R C (gs.getD k dG) && freeG (gs.take k) (gs.getD k dG)) = false) : okTo R C gs n = false := by
  cases h2 : okTo R C gs n with
  | false => rfl
  | true => rw [List.all_eq_true.1 h2 k (List.mem_range.2 hk)] at h; cases h
theorem okB_false1 {g : G} (h : boundsB g.rows g.cols g.cells.length = false) : okB g = false := by simp only [okB, h, Bool.false_and]
theorem okB_false2 {g : G} (h : okTo g.rows g.cols g.cells g.cells.length = false) : okB g = false := by simp only [okB, h, Bool.and_false]
theorem bounds_of {R C : Int} {n : Nat} (h : boundsB R C n = true) : 1 ≤ R ∧ R ≤ 8 ∧ 1 ≤ C ∧ C ≤ 94 ∧ n ≤ 40 := by
  simp [boundsB, inB] at h
  omega
theorem bounds_intro {R C : Int} {n : Nat} (h1 : inB R 1 8 = true) (h2 : inB C 1 94 = true) (h3 : n ≤ 40) : boundsB R C n = true := by simp [boundsB, h1, h2, h3]
/-- a cell that fits, in plain numbers -/
def Fit5 (R C : Int) (x : GC) (r c rs cs : Nat) : Prop := x.row = r ∧ x.col = c ∧ x.rows = rs ∧ x.cols = cs ∧ 1 ≤ rs ∧ 1 ≤ cs ∧ ((r + rs : Nat) : Int) ≤ R ∧ ((c + cs : Nat) : Int) ≤ C
theorem fits_of {R C : Int} {x : GC} (h : fitsB R C x = true) : Fit5 R C x x.row.toNat x.col.toNat x.rows.toNat x.cols.toNat := by
  simp [fitsB, inB] at h
  unfold Fit5
  omega
def slotsG (x : GC) : List Sl := rowsSl x.row.toNat x.col.toNat x.cols.toNat x.rows.toNat
/-- the slots of cells -/
def takenBy (gs : List GC) : List (Nat × Nat) := (gs.flatMap slotsG).map (·.1)
theorem takenBy_nil : takenBy [] = [] := rfl
theorem takenBy_snoc (gs : List GC) (x : GC) : takenBy (gs ++ [x]) = takenBy gs ++ (slotsG x).map (·.1) := by simp [takenBy]
theorem mem_rowsSl {r c rs cs : Nat} (hr : r + rs ≤ 1000) (hc : c + cs ≤ 1000) (y : Nat × Nat) : y ∈ (rowsSl r c cs rs).map (·.1) ↔ (r ≤ y.1 ∧ y.1 < r + rs) ∧ c ≤ y.2 ∧ y.2 < c + cs := by
  simp only [rowsSl, rowSl, List.mem_map, List.mem_flatMap, List.mem_range]
  constructor
  · rintro ⟨z, ⟨i, hi, j, hj, rfl⟩, rfl⟩
    rw [toSl_val (by omega)]
    dsimp only
    omega
  · rintro ⟨⟨h1, h2⟩, h3, h4⟩
    refine ⟨toSl (r + (y.1 - r)) (c + (y.2 - c)), ⟨y.1 - r, by omega, y.2 - c, by omega, rfl⟩, ?_⟩
    rw [toSl_val (by omega)]
    exact Prod.ext (by dsimp only; omega) (by dsimp only; omega)
theorem mem_slotsG {R C : Int} {x : GC} (h : fitsB R C x = true) (hR : R ≤ 8) (hC : C ≤ 94) (y : Nat × Nat) : y ∈ (slotsG x).map (·.1) ↔ (x.row ≤ y.1 ∧ (y.1 : Int) < x.row + x.rows) ∧ x.col ≤ y.2 ∧ (y.2 : Int) < x.col + x.cols := by
  obtain ⟨e1, e2, e3, e4, h1, h2, h3, h4⟩ := fits_of h
  unfold slotsG
  rw [mem_rowsSl (by omega) (by omega)]
  omega
/-- cells meet just if they have a slot in common -/
theorem meets_iff {R C : Int} {a x : GC} (ha : fitsB R C a = true) (hx : fitsB R C x = true) (hR : R ≤ 8) (hC : C ≤ 94) : meetsB a x = true ↔ ∃ y, y ∈ (slotsG a).map (·.1) ∧ y ∈ (slotsG x).map (·.1) := by
  obtain ⟨a1, a2, a3, a4, a5, a6, a7, a8⟩ := fits_of ha
  obtain ⟨x1, x2, x3, x4, x5, x6, x7, x8⟩ := fits_of hx
  have e : meetsB a x = true ↔ a.row < x.row + x.rows ∧ x.row < a.row + a.rows ∧ a.col < x.col + x.cols ∧ x.col < a.col + a.cols := by simp [meetsB]
  rw [e]
  constructor
  · rintro ⟨h1, h2, h3, h4⟩
    refine ⟨(max a.row.toNat x.row.toNat, max a.col.toNat x.col.toNat), (mem_slotsG ha hR hC _).2 ?_, (mem_slotsG hx hR hC _).2 ?_⟩
    · dsimp only; omega
    · dsimp only; omega
  · rintro ⟨y, h1, h2⟩
    have k1 := (mem_slotsG ha hR hC _).1 h1
    have k2 := (mem_slotsG hx hR hC _).1 h2
    omega
theorem free_eq {R C : Int} {gs : List GC} {x : GC} (hg : ∀ a ∈ gs, fitsB R C a = true) (hx : fitsB R C x = true) (hR : R ≤ 8) (hC : C ≤ 94) : freeIn (takenBy gs) x.row.toNat x.col.toNat x.rows.toNat x.cols.toNat = freeG gs x := by
  rw [Bool.eq_iff_iff]
  unfold freeIn freeG
  rw [List.all_eq_true, List.all_eq_true]
  constructor
  · intro h a ha
    cases hm : meetsB a x with
    | false => rfl
    | true =>
      obtain ⟨y, h1, h2⟩ := (meets_iff (hg a ha) hx hR hC).1 hm
      obtain ⟨z, hz, rfl⟩ := List.mem_map.1 h2
      have := of_decide_eq_true (h z hz)
      refine absurd ?_ this
      obtain ⟨u, hu, e⟩ := List.mem_map.1 h1
      exact List.mem_map.2 ⟨u, List.mem_flatMap.2 ⟨a, ha, hu⟩, e⟩
  · intro h z hz
    refine decide_eq_true (fun hm => ?_)
    obtain ⟨u, hu, e⟩ := List.mem_map.1 hm
    obtain ⟨a, ha, hua⟩ := List.mem_flatMap.1 hu
    have := h a ha
    rw [(meets_iff (hg a ha) hx hR hC).2 ⟨z.1, List.mem_map.2 ⟨u, hua, e⟩, List.mem_map.2 ⟨z, hz, rfl⟩⟩] at this
    cases this
theorem okTo_fits {R C : Int} {gs : List GC} {k : Nat} (hk : k ≤ gs.length) (h : okTo R C gs k = true) : ∀ a ∈ gs.take k, fitsB R C a = true := by
  intro a ha
  obtain ⟨i, hi, rfl⟩ := List.mem_iff_getElem.1 ha
  rw [List.length_take] at hi
  have := List.all_eq_true.1 h i (List.mem_range.2 (by omega))
  rw [Bool.and_eq_true] at this
  have e : gs.getD i dG = (gs.take k)[i] := by simp [List.getD, show i < gs.length by omega]
  rw [← e]
  exact this.1
theorem rowSl_len (r c a : Nat) : (rowSl r c a).length = a := by simp [rowSl]
theorem rowsSl_len (r c cs d : Nat) : (rowsSl r c cs d).length = d * cs := by
  induction d with
  | zero => simp [rowsSl]
  | succ d ih => rw [rowsSl_succ, List.length_append, ih, rowSl_len, Nat.succ_mul]
theorem slotsG_len {R C : Int} {x : GC} (h : fitsB R C x = true) (hR : R ≤ 8) (hC : C ≤ 94) : (slotsG x).length ≤ 752 := by
  obtain ⟨e1, e2, e3, e4, h1, h2, h3, h4⟩ := fits_of h
  unfold slotsG
  rw [rowsSl_len]
  have a1 : x.rows.toNat ≤ 8 := by omega
  have a2 : x.cols.toNat ≤ 94 := by omega
  exact Nat.mul_le_mul a1 a2
theorem takenBy_len {R C : Int} (hR : R ≤ 8) (hC : C ≤ 94) : ∀ (gs : List GC), (∀ a ∈ gs, fitsB R C a = true) → (takenBy gs).length ≤ gs.length * 752
  | [], _ => by simp [takenBy]
  | a :: t, h => by
    have h1 := slotsG_len (h a (by simp)) hR hC
    have h2 := takenBy_len hR hC t (fun b hb => h b (by simp [hb]))
    simp only [takenBy, List.length_map, List.flatMap_cons, List.length_append, List.length_cons] at h2 ⊢
    omega
end Go.Proofs.Ytfkkhfiiokhnaae
