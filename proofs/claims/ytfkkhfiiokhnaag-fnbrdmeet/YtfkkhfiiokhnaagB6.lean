/-
  PROVED HERE: what the model's l3Meets and l3Free answer; nothing that was in memory is turned. Also: what it is that a call owns the cells, the columns and the rows of a table: it stays where other blocks are turned; such a table lies in memory. Also: what a border that is ok is, as a Bool. Also: what the program's TxtOk answers at every string: the Bool 'txtOkB', and the memory is left as it was.
-/
import Derived.Test.YtfkkhfiiokhnaagB5
import Derived.Test.YtfkkhfiiokhnaagB4
import Derived.WalkKit
import Derived.ProofKit
import Derived.WalkLawsBesides
import Derived.WalkSpells
import Derived.Below
import Derived.Test.YtfkkhfiiokhnaagRows
import Derived.Lib.Strings
namespace Go.Proofs.Ytfkkhfiiokhnaag
open Go.RowKit Go.BigFrame

/-- no number of a cell is great -/
def Sm (x : GC) : Prop := (0 ≤ x.row ∧ x.row ≤ 100000) ∧ (0 ≤ x.col ∧ x.col ≤ 100000) ∧ (0 ≤ x.rows ∧ x.rows ≤ 100000) ∧ (0 ≤ x.cols ∧ x.cols ≤ 100000)
theorem fits_sm {R C : Int} {x : GC} (h : fitsB R C x = true) (hR : R ≤ 8) (hC : C ≤ 94) : Sm x := by
  obtain ⟨e1, e2, e3, e4, h1, h2, h3, h4⟩ := fits_of h
  unfold Sm
  omega
theorem GsAt.take {w : World} {z : Nat} {ac : Option Addr} {cc : Nat} {gs : List GC} (h : GsAt w z (.slice ac gs.length cc) gs) {k : Nat} (hk : k ≤ gs.length) : GsAt w z (.slice ac (gs.take k).length cc) (gs.take k) := by
  obtain ⟨a, cap, e, h1, h2, hx⟩ := h
  simp only [Value.slice.injEq, true_and] at e
  obtain ⟨rfl, rfl⟩ := e
  have hl : (gs.take k).length = k := by rw [List.length_take]; omega
  refine ⟨_, _, rfl, by omega, h2, fun i hi => ?_⟩
  obtain ⟨b, off, ea, hb, hz, he⟩ := hx i (by omega)
  have e : (gs.take k).getD i dG = gs.getD i dG := by simp [List.getD, show i < k by omega]
  exact ⟨b, off, ea, hb, hz, by dsimp only; rw [e]; exact he⟩

def gcA (x : GC) : Value := .agg #[.int .i64 x.row, .int .i64 x.col, .int .i64 x.rows, .int .i64 x.cols, .int .i64 x.ins]
set_option maxRecDepth 100000 in
set_option maxHeartbeats 1000000 in
theorem l3Meets_any (a b : GC) (ha : Sm a) (hb : Sm b) (w : World) :
    Calls Try.prog 87 #[.agg #[.int .i64 a.row, .int .i64 a.col, .int .i64 a.rows, .int .i64 a.cols, .int .i64 a.ins], .agg #[.int .i64 b.row, .int .i64 b.col, .int .i64 b.rows, .int .i64 b.cols, .int .i64 b.ins]] w fun e w' => e = .returned (.bool (meetsB a b)) ∧ Below w.heap.size w w' := by
  obtain ⟨a0, a1, a2, a3⟩ := ha
  obtain ⟨b0, b1, b2, b3⟩ := hb
  by_cases h1 : a.row < b.row + b.rows
  · by_cases h2 : b.row < a.row + a.rows
    · by_cases h3 : a.col < b.col + b.cols
      · have HE : Hid (meetsB a b = decide (b.col < a.col + a.cols)) := by
          show meetsB a b = _
          simp only [meetsB, h1, h2, h3, decide_true, Bool.true_and]
        go_enter Try.func87, Try.ntmps87
        go_wp2
        go_ret
        exact ⟨retB HE.out.symm, k_alloc (k_alloc (Below.refl _ _) _) _⟩
      · have HE : Hid (meetsB a b = false) := by
          show meetsB a b = _
          simp only [meetsB, h3, decide_false, Bool.false_and, Bool.and_false]
        go_enter Try.func87, Try.ntmps87
        go_wp2
        go_ret
        exact ⟨retB HE.out.symm, k_alloc (k_alloc (Below.refl _ _) _) _⟩
    · have HE : Hid (meetsB a b = false) := by
        show meetsB a b = _
        simp only [meetsB, h2, decide_false, Bool.false_and, Bool.and_false]
      go_enter Try.func87, Try.ntmps87
      go_wp2
      go_ret
      exact ⟨retB HE.out.symm, k_alloc (k_alloc (Below.refl _ _) _) _⟩
  · have HE : Hid (meetsB a b = false) := by
      show meetsB a b = _
      simp only [meetsB, h1, decide_false, Bool.false_and]
    go_enter Try.func87, Try.ntmps87
    go_wp2
    go_ret
    exact ⟨retB HE.out.symm, k_alloc (k_alloc (Below.refl _ _) _) _⟩

theorem freeG_hit {gs : List GC} {x : GC} {k : Nat} (hk : k < gs.length) (h : meetsB (gs.getD k dG) x = true) : freeG gs x = false := by
  cases h2 : freeG gs x with
  | false => rfl
  | true =>
    have e : gs.getD k dG = gs[k] := by simp [List.getD, hk]
    have := List.all_eq_true.1 h2 gs[k] (List.getElem_mem hk)
    rw [← e, h] at this
    cases this
theorem freeG_all {gs : List GC} {x : GC} (h : ∀ j, j < gs.length → meetsB (gs.getD j dG) x = false) : freeG gs x = true := by
  refine List.all_eq_true.2 (fun a ha => ?_)
  obtain ⟨i, hi, rfl⟩ := List.mem_iff_getElem.1 ha
  have := h i hi
  have e : gs.getD i dG = gs[i] := by simp [List.getD, hi]
  rw [e] at this
  rw [this]; rfl

set_option maxRecDepth 100000 in
set_option maxHeartbeats 1000000 in
theorem l3Free_any (ac : Option Addr) (cc : Nat) (gs : List GC) (hgs : ∀ a ∈ gs, Sm a) (x : GC) (hxs : Sm x) (w : World) {z : Nat} (h : GsAt w z (.slice ac gs.length cc) gs) :
    Calls Try.prog 74 #[.slice ac gs.length cc, .agg #[.int .i64 x.row, .int .i64 x.col, .int .i64 x.rows, .int .i64 x.cols, .int .i64 x.ins]] w fun e w' => e = .returned (.bool (freeG gs x)) ∧ Below w.heap.size w w' := by
  obtain ⟨_, _, _, hlen⟩ := At.form h
  unfold maxLen at hlen
  have K0 := Hid.intro (k_alloc (Below.refl w.heap.size w) (.cells #[.int .i64 x.row, .int .i64 x.col, .int .i64 x.rows, .int .i64 x.cols, .int .i64 x.ins] 27))
  have H := Hid.intro h
  have HG := Hid.intro hgs
  have HXS := Hid.intro hxs
  have hmx : Try.prog.follows .mixedOrders = true := by kernel_rfl
  clear h hgs hxs
  go_enter Try.func74, Try.ntmps74
  go_wp2_with fail
  go_loopw [5] (fun i W => ∃ k : Nat, k ≤ gs.length ∧ i = .int .i64 k ∧ Hid (∀ j, j < k → meetsB (gs.getD j dG) x = false) ∧ Hid (Below w.heap.size w W) ∧ Hid (W.heap[w.heap.size]? = some (.cells #[.int .i64 x.row, .int .i64 x.col, .int .i64 x.rows, .int .i64 x.cols, .int .i64 x.ins] 27))) (fun i _ => gs.length - (intOf i).toNat)
  case atStart => exact ⟨0, Nat.zero_le _, rfl, fun j hj => absurd hj (Nat.not_lt_zero _), K0.out, newestB _ _⟩
  case round =>
    obtain ⟨k, hk, rfl, HA, HB, HX⟩ := hrel
    have hz : w.heap.size < wr.heap.size := (Array.getElem?_eq_some_iff.1 HX.out).1
    by_cases hlt : k < gs.length
    · have hlt' : (k : Int) < (gs.length : Int) := by omega
      have h0' : (0 : Int) ≤ (k : Int) := by omega
      obtain ⟨q, off, cap', e', hc1, hc2, hbl, hx, hs⟩ := At.get (H.out.kept HB.out) hlt
      simp only [Value.slice.injEq, true_and] at e'
      obtain ⟨rfl, rfl⟩ := e'
      have HH : Hid (meetsB (gs.getD k dG) x = true → freeG gs x = false) := fun hp => freeG_hit hlt hp
      have HN : Hid (meetsB (gs.getD k dG) x = false → ∀ j, j < k + 1 → meetsB (gs.getD j dG) x = false) := fun hp j hj => by
        rcases Nat.lt_or_eq_of_le (Nat.lt_succ_iff.1 hj) with h1 | rfl
        · exact HA.out j h1
        · exact hp
      have HS : Sm (gs.getD k dG) := by
        have e : gs.getD k dG = gs[k] := by simp [List.getD, hlt]
        rw [e]
        exact HG.out _ (List.getElem_mem hlt)
      have HL := Hid.intro (l3Meets_any (gs.getD k dG) x HS HXS.out)
      clear HS hs
      generalize gs.getD k dG = y at hx HH HN HL
      obtain ⟨x0, x1, x2, x3, x4⟩ := hx
      have y0 := bw_cell (a := ⟨q, off + k * 5, none⟩) hbl x0
      have y1 := bw_cell (a := ⟨q, off + k * 5 + 1, none⟩) hbl x1
      have y2 := bw_cell (a := ⟨q, off + k * 5 + 2, none⟩) hbl x2
      have y3 := bw_cell (a := ⟨q, off + k * 5 + 3, none⟩) hbl x3
      have y4 := bw_cell (a := ⟨q, off + k * 5 + 4, none⟩) hbl x4
      have b0 := bw_cell (a := ⟨w.heap.size, 0, none⟩) (v := .int .i64 x.row) hz (cellB HX.out)
      have b1 := bw_cell (a := ⟨w.heap.size, 1, none⟩) (v := .int .i64 x.col) hz (cellB HX.out)
      have b2 := bw_cell (a := ⟨w.heap.size, 2, none⟩) (v := .int .i64 x.rows) hz (cellB HX.out)
      have b3 := bw_cell (a := ⟨w.heap.size, 3, none⟩) (v := .int .i64 x.cols) hz (cellB HX.out)
      have b4 := bw_cell (a := ⟨w.heap.size, 4, none⟩) (v := .int .i64 x.ins) hz (cellB HX.out)
      unfold maxLen at hc2
      clear x0 x1 x2 x3 x4
      go_wp2_with fail
      have hne := bw_some wr
      refine wp_region_quiet_below hmx (by kernel_rfl) ?_
      repeat (go_big_quiet_step (refine bw_of (HL.out _)))
      refine wpQuiet_nil ?_
      intro _ hw'
      obtain ⟨⟨W7, hW7⟩, hw''⟩ := hw'
      subst hw''
      have HB7 := Hid.intro (k_trans HB.out hW7)
      have HX7 := Hid.intro ((hW7.block w.heap.size hz).trans HX.out)
      clear y0 y1 y2 y3 y4 b0 b1 b2 b3 b4 hW7
      cases h1 : meetsB y x with
      | false =>
        have HF := Hid.intro (HN.out h1)
        clear HH HN HA h1
        go_wp2
        go_roundw
        case rel => exact ⟨k + 1, by omega, by go_num, HF, HB7, HX7⟩
        case measure => simp [intOf]; omega
      | true =>
        have HF := Hid.intro (HH.out h1)
        clear HH HN HA h1
        go_wp2
        go_ret
        exact ⟨retB HF.out.symm, HB7.out⟩
    · obtain rfl : k = gs.length := by omega
      have HF := Hid.intro (freeG_all HA.out)
      clear HA
      go_wp2
      go_ret
      exact ⟨retB HF.out.symm, HB.out⟩
end Go.Proofs.Ytfkkhfiiokhnaag
namespace Go.Proofs.Ytfkkhfiiokhnaag
open Go.RowKit

/-- a cell's eleven cells -/
def cellVs (x : C) : List Value := [.string x.s, .int .i64 x.c, .int .i64 x.r, .int .i64 x.a1, .int .i64 x.b1, .int .i64 x.a2, .int .i64 x.b2, .int .i64 x.a3, .int .i64 x.b3, .int .i64 x.a4, .int .i64 x.b4]
def colVs (p : Int × Int) : List Value := [.int .i64 p.1, .int .i64 p.2]
def rowVs (p : Value × R) : List Value := [p.1, .bool p.2.whole]
def OwnC (w : World) (base : Nat) (u : Value) (cs : List C) : Prop := w.ownsRow base 89 11 u cs.length (cs.flatMap cellVs)
def OwnCol (w : World) (base : Nat) (v : Value) (ps : List (Int × Int)) : Prop := w.ownsRow base 83 2 v ps.length (ps.flatMap colVs)
/-- rows, each with its slice of cells -/
structure OwnR (w : World) (base : Nat) (v : Value) (ur : List (Value × R)) : Prop where
  own : w.ownsRow base 86 2 v ur.length (ur.flatMap rowVs)
  cells : ∀ p ∈ ur, OwnC w base p.1 p.2.cells
  apart : ur.Pairwise fun p q => p.1.ownBlock = none ∨ p.1.ownBlock ≠ q.1.ownBlock

/-- what stays: all blocks from n on but these two -/
structure Off (n : Nat) (b1 b2 : Option Nat) (w w' : World) : Prop where
  size : w.heap.size ≤ w'.heap.size
  block : ∀ k, n ≤ k → k < w.heap.size → some k ≠ b1 → some k ≠ b2 → w'.heap[k]? = w.heap[k]?
theorem Off.bk {n r : Nat} {b1 b2 : Option Nat} {w w' : World} (h : Bk r w w') (hr : r < n) : Off n b1 b2 w w' := ⟨h.size, fun k hk hl _ _ => h.block k hl (by omega)⟩
theorem Off.grown {n : Nat} {b1 b2 : Option Nat} {w w' : World} (h : w.grownBy w' b2) : Off n b1 b2 w w' := ⟨h.size, fun k _ hl _ h2 => h.block k hl h2⟩
theorem Off.set {n g : Nat} {b2 : Option Nat} (w : World) (p : Addr) (hp : p.block = g) (v : Value) : Off n (some g) b2 w (w.setCell p v) := ⟨by simp [World.setCell], fun k _ _ h1 _ => Below.heap_setCell _ _ _ _ (fun e => h1 (by rw [e, hp]))⟩

theorem row_off {w w' : World} {base n : Nat} {e : TypeId} {sz : Nat} {v : Value} {m : Nat} {xs : List Value} {b1 b2 : Option Nat} (h : w.ownsRow base e sz v m xs) (k : Off n b1 b2 w w') (hn : n ≤ base) (h1 : v.ownBlock = none ∨ v.ownBlock ≠ b1) (h2 : v.ownBlock = none ∨ v.ownBlock ≠ b2) : w'.ownsRow base e sz v m xs :=
  ⟨h.1, h.2.elim Or.inl (fun ⟨g, cap, cur, hv, hg, hc, q⟩ => Or.inr ⟨g, cap, cur, hv, hg, (k.block g (by omega) (Array.getElem?_eq_some_iff.1 hc).1
    (fun e => by subst hv; rcases h1 with h1 | h1 <;> simp [Value.ownBlock] at h1; exact h1 e)
    (fun e => by subst hv; rcases h2 with h2 | h2 <;> simp [Value.ownBlock] at h2; exact h2 e)).trans hc, q⟩)⟩
/-- a block's kind tells blocks apart -/
theorem row_ne {w : World} {base base' : Nat} {e e' : TypeId} {sz sz' : Nat} {v v' : Value} {m m' : Nat} {xs xs' : List Value} (h : w.ownsRow base e sz v m xs) (h' : w.ownsRow base' e' sz' v' m' xs') (he : e ≠ e') : v.ownBlock = none ∨ v.ownBlock ≠ v'.ownBlock := by
  rcases h.2 with ⟨rfl, _⟩ | ⟨g, cap, cur, rfl, _, hc, _⟩
  · exact .inl rfl
  · refine .inr (fun e1 => ?_)
    rcases h'.2 with ⟨rfl, _⟩ | ⟨g', cap', cur', rfl, _, hc', _⟩
    · simp [Value.ownBlock] at e1
    · simp [Value.ownBlock] at e1
      subst e1
      rw [hc] at hc'
      simp at hc'
      exact he hc'.2
theorem row_ne_block {w : World} {base : Nat} {e e' : TypeId} {sz : Nat} {v : Value} {m : Nat} {xs : List Value} {g : Nat} {cur : Array Value} (h : w.ownsRow base e sz v m xs) (h' : w.heap[g]? = some (.cells cur e')) (he : e ≠ e') : v.ownBlock = none ∨ v.ownBlock ≠ some g := by
  rcases h.2 with ⟨rfl, _⟩ | ⟨g', cap, cur', rfl, _, hc, _⟩
  · exact .inl rfl
  · refine .inr (fun e1 => ?_)
    simp [Value.ownBlock] at e1
    subst e1
    rw [hc] at h'
    simp at h'
    exact he h'.2
theorem row_lt {w : World} {base : Nat} {e : TypeId} {sz : Nat} {v : Value} {m : Nat} {xs : List Value} (h : w.ownsRow base e sz v m xs) {b : Nat} (hb : v.ownBlock = some b) : base ≤ b ∧ b < w.heap.size := by
  rcases h.2 with ⟨rfl, _⟩ | ⟨g, cap, cur, rfl, hg, hc, _⟩
  · simp [Value.ownBlock] at hb
  · simp [Value.ownBlock] at hb
    subst hb
    exact ⟨hg, (Array.getElem?_eq_some_iff.1 hc).1⟩
theorem row_base {w : World} {base base' : Nat} {e : TypeId} {sz : Nat} {v : Value} {m : Nat} {xs : List Value} (h : w.ownsRow base e sz v m xs) (hb : base' ≤ base) : w.ownsRow base' e sz v m xs :=
  ⟨h.1, h.2.elim Or.inl (fun ⟨g, cap, cur, hv, hg, q⟩ => Or.inr ⟨g, cap, cur, hv, by omega, q⟩)⟩
theorem row_form {w : World} {base : Nat} {e : TypeId} {sz : Nat} {v : Value} {m : Nat} {xs : List Value} (h : w.ownsRow base e sz v m xs) : ∃ a cap, v = .slice a m cap ∧ m ≤ maxLen := by
  rcases h.2 with ⟨rfl, rfl⟩ | ⟨g, cap, cur, rfl, _, _, h1, h2, _⟩
  · exact ⟨none, 0, rfl, by unfold maxLen; omega⟩
  · exact ⟨_, cap, rfl, Nat.le_trans h1 h2⟩
theorem OwnR.off {w w' : World} {base n : Nat} {v : Value} {ur : List (Value × R)} {b1 b2 : Option Nat} (h : OwnR w base v ur) (k : Off n b1 b2 w w') (hn : n ≤ base) (h1 : v.ownBlock = none ∨ v.ownBlock ≠ b1) (h2 : v.ownBlock = none ∨ v.ownBlock ≠ b2)
    (hc : ∀ p ∈ ur, (p.1.ownBlock = none ∨ p.1.ownBlock ≠ b1) ∧ (p.1.ownBlock = none ∨ p.1.ownBlock ≠ b2)) : OwnR w' base v ur :=
  ⟨row_off h.own k hn h1 h2, fun p hp => row_off (h.cells p hp) k hn (hc p hp).1 (hc p hp).2, h.apart⟩
/-- what is not among two blocks -/
def OffV (v : Value) (b1 b2 : Option Nat) : Prop := (v.ownBlock = none ∨ v.ownBlock ≠ b1) ∧ (v.ownBlock = none ∨ v.ownBlock ≠ b2)

/-- elements of so many cells, one behind the other -/
theorem flat_get {α : Type} (f : α → List Value) (sz : Nat) (hf : ∀ x, (f x).length = sz) (l : List α) (i : Nat) (hi : i < l.length) (j : Nat) (hj : j < sz) : (l.flatMap f)[i * sz + j]? = (f l[i])[j]? := by
  induction l generalizing i with
  | nil => simp at hi
  | cons a t ih =>
    rw [List.flatMap_cons]
    cases i with
    | zero => rw [List.getElem?_append_left (by rw [hf]; omega)]; simp
    | succ i =>
      rw [List.getElem?_append_right (by rw [hf, Nat.succ_mul]; omega), hf]
      have e : (i + 1) * sz + j - sz = i * sz + j := by rw [Nat.succ_mul]; omega
      rw [e, ih i (by simpa using hi)]
      simp
theorem flat_len {α : Type} (f : α → List Value) (sz : Nat) (hf : ∀ x, (f x).length = sz) (l : List α) : (l.flatMap f).length = l.length * sz := by
  induction l with
  | nil => simp
  | cons a t ih => rw [List.flatMap_cons, List.length_append, hf, ih, List.length_cons, Nat.succ_mul]; omega
theorem row_cell {w : World} {base : Nat} {e : TypeId} {sz : Nat} {m : Nat} {xs : List Value} {g cap : Nat} (h : w.ownsRow base e sz (.slice (some ⟨g, 0, none⟩) m cap) m xs) {k : Nat} {u : Value} (hk : xs[k]? = some u) : w.cell? ⟨g, k, none⟩ = some u := by
  have hl : k < xs.length := (List.getElem?_eq_some_iff.1 hk).1
  rcases h.2 with ⟨e, _⟩ | ⟨g', cap', cur, e, _, hc, _, _, _, ht⟩
  · simp at e
  · simp at e
    obtain ⟨rfl, rfl⟩ := e
    rw [cellB hc, ← Array.getElem?_toList]
    rw [← ht, List.getElem?_take_of_lt (by rw [h.1] at hl; exact hl)] at hk
    exact hk
theorem getD_get {α : Type} {l : List α} {i : Nat} (d : α) (h : i < l.length) : l.getD i d = l[i] := by simp [List.getD, h]
theorem OwnC.at {w : World} {base : Nat} {u : Value} {cs : List C} (h : OwnC w base u cs) (hs : ∀ x ∈ cs, x.s.size ≤ 61) : CellsAt w base u cs := by
  rcases h.2 with ⟨rfl, hn⟩ | ⟨g, cap, cur, rfl, hg, hc, h1, h2, _⟩
  · exact ⟨none, 0, by rw [hn], by omega, by unfold maxLen; omega, fun i hi => by omega⟩
  · refine ⟨_, cap, rfl, h1, h2, fun i hi => ⟨g, 0, rfl, (Array.getElem?_eq_some_iff.1 hc).1, hg, ?_, ?_⟩⟩
    · have hx : ∀ j, j < 11 → w.cell? ⟨g, i * 11 + j, none⟩ = (cellVs cs[i])[j]? := fun j hj => by
        have e := flat_get cellVs 11 (fun _ => rfl) cs i hi j hj
        rw [row_cell h (u := (cellVs cs[i])[j]'(by show j < 11; exact hj)) (by rw [e]; simp)]
        simp
      rw [getD_get dC hi, Nat.zero_add]
      exact ⟨hx 0 (by omega), hx 1 (by omega), hx 2 (by omega), hx 3 (by omega), hx 4 (by omega), hx 5 (by omega), hx 6 (by omega), hx 7 (by omega), hx 8 (by omega), hx 9 (by omega), hx 10 (by omega)⟩
    · rw [getD_get dC hi]
      have := hs _ (List.getElem_mem hi)
      unfold maxLen
      omega
theorem OwnCol.at {w : World} {base : Nat} {u : Value} {ps : List (Int × Int)} (h : OwnCol w base u ps) : ColsAt w base u ps := by
  rcases h.2 with ⟨rfl, hn⟩ | ⟨g, cap, cur, rfl, hg, hc, h1, h2, _⟩
  · exact ⟨none, 0, by rw [hn], by omega, by unfold maxLen; omega, fun i hi => by omega⟩
  · refine ⟨_, cap, rfl, h1, h2, fun i hi => ⟨g, 0, rfl, (Array.getElem?_eq_some_iff.1 hc).1, hg, ?_⟩⟩
    have hx : ∀ j, j < 2 → w.cell? ⟨g, i * 2 + j, none⟩ = (colVs ps[i])[j]? := fun j hj => by
      have e := flat_get colVs 2 (fun _ => rfl) ps i hi j hj
      rw [row_cell h (u := (colVs ps[i])[j]'(by show j < 2; exact hj)) (by rw [e]; simp)]
      simp
    dsimp only
    rw [getD_get (0, 0) hi, Nat.zero_add]
    exact ⟨hx 0 (by omega), hx 1 (by omega)⟩
theorem OwnR.at {w : World} {base : Nat} {v : Value} {ur : List (Value × R)} (h : OwnR w base v ur) (hs : ∀ p ∈ ur, ∀ x ∈ p.2.cells, x.s.size ≤ 61) : RowsAt w base v (ur.map (·.2)) := by
  have hl : (ur.map (·.2)).length = ur.length := by simp
  rcases h.own.2 with ⟨rfl, hn⟩ | ⟨g, cap, cur, rfl, hg, hc, h1, h2, _⟩
  · exact ⟨none, 0, by rw [hl, hn], by rw [hl]; omega, by unfold maxLen; omega, fun i hi => by rw [hl] at hi; omega⟩
  · refine ⟨_, cap, by rw [hl], by rw [hl]; exact h1, h2, fun i hi => ⟨g, 0, rfl, (Array.getElem?_eq_some_iff.1 hc).1, hg, ?_⟩⟩
    rw [hl] at hi
    have hx : ∀ j, j < 2 → w.cell? ⟨g, i * 2 + j, none⟩ = (rowVs ur[i])[j]? := fun j hj => by
      have e := flat_get rowVs 2 (fun _ => rfl) ur i hi j hj
      rw [row_cell h.own (u := (rowVs ur[i])[j]'(by show j < 2; exact hj)) (by rw [e]; simp)]
      simp
    have hm := List.getElem_mem hi
    dsimp only
    rw [getD_get dR (by rw [hl]; exact hi), Nat.zero_add, List.getElem_map]
    exact ⟨ur[i].1, hx 0 (by omega), hx 1 (by omega), (h.cells _ hm).at (hs _ hm)⟩
end Go.Proofs.Ytfkkhfiiokhnaag
namespace Go.Proofs.Ytfkkhfiiokhnaag
open Go.RowKit

def brdOkB (a b : Int) : Bool := decide ((a = 0 ∨ a = 4) ∧ b = 0 ∨ (1 ≤ a ∧ a ≤ 3) ∧ 1 ≤ b ∧ b ≤ 3)
theorem brd_zero (b : Int) : brdOkB 0 b = (b == 0) := by rw [Bool.eq_iff_iff]; simp [brdOkB]
theorem brd_four (b : Int) : brdOkB 4 b = (b == 0) := by rw [Bool.eq_iff_iff]; simp [brdOkB]; 
theorem brd_seen {a : Int} (b : Int) (h1 : 1 ≤ a) (h2 : a ≤ 3) : brdOkB a b = inB b 1 3 := by rw [Bool.eq_iff_iff]; simp [brdOkB, inB]; omega
theorem brd_other {a : Int} (b : Int) (h0 : a ≠ 0) (h4 : a ≠ 4) (h : ¬ (1 ≤ a ∧ a ≤ 3)) : brdOkB a b = false := by simp [brdOkB]; omega
end Go.Proofs.Ytfkkhfiiokhnaag
namespace Go.Proofs.Ytfkkhfiiokhnaag
open Go.RowKit

/-- the i-th byte of a text, 0 past its end -/
def ch (s : ByteArray) (i : Nat) : Int := if h : i < s.size then (s[i].toNat : Int) else 0
def goodB (s : ByteArray) (i : Nat) : Bool := decide ((ch s i = 32 → i ≠ 0 ∧ i + 1 ≠ s.size ∧ ch s (i - 1) ≠ 32) ∧ (ch s i ≠ 32 → 97 ≤ ch s i ∧ ch s i ≤ 122))
def txtOkB (s : ByteArray) : Bool := decide (s.size ≤ 30) && (List.range s.size).all (goodB s)

theorem txtOkB_iff (s : ByteArray) : txtOkB s = true ↔ s.size ≤ 30 ∧ ∀ i, i < s.size → goodB s i = true := by
  simp [txtOkB, List.all_eq_true]
theorem txtOkB_long {s : ByteArray} (h : ¬ s.size ≤ 30) : txtOkB s = false := by simp [txtOkB, h]
theorem txtOkB_bad {s : ByteArray} (i : Nat) (hi : i < s.size) (h : goodB s i = false) : txtOkB s = false := by
  cases hb : txtOkB s with
  | false => rfl
  | true => rw [((txtOkB_iff s).1 hb).2 i hi] at h; cases h
theorem txtOkB_all {s : ByteArray} (h30 : s.size ≤ 30) (h : ∀ i, i < s.size → goodB s i = true) : txtOkB s = true := (txtOkB_iff s).2 ⟨h30, h⟩
theorem ch_at {s : ByteArray} {i : Nat} (h : i < s.size) : ch s i = (s[i].toNat : Int) := by simp [ch, h]
theorem next_all {s : ByteArray} {k : Nat} (h : ∀ j, j < k → goodB s j = true) (hk : goodB s k = true) : ∀ j, j < k + 1 → goodB s j = true := by
  intro j hj
  rcases Nat.lt_or_eq_of_le (Nat.lt_succ_iff.1 hj) with h1 | h1
  · exact h j h1
  · rw [h1]; exact hk
theorem toList_nil {s : ByteArray} (h : s.size = 0) : s.toList = [] := by
  rw [Lib.toList_data]; exact List.eq_nil_of_length_eq_zero (by simpa using h)
theorem size_nil {s : ByteArray} (h : s.toList = []) : s.size = 0 := by
  rw [Lib.toList_data] at h; have := congrArg List.length h; simpa using this
theorem ret_bool {a b : Bool} (h : a = b) : Ending.returned (.bool a) = .returned (.bool b) := by rw [h]

def bef (s : ByteArray) (k : Nat) : Int := if k = 0 then 32 else ch s (k - 1)
def goodI (s : ByteArray) (j : Nat) : Prop := (ch s j = 32 → bef s j ≠ 32) ∧ (ch s j ≠ 32 → 97 ≤ ch s j ∧ ch s j ≤ 122)
theorem goodI_next {s : ByteArray} {k : Nat} (h : ∀ j, j < k → goodI s j) (hk : goodI s k) : ∀ j, j < k + 1 → goodI s j := by
  intro j hj
  rcases Nat.lt_or_eq_of_le (Nat.lt_succ_iff.1 hj) with h1 | h1
  · exact h j h1
  · rw [h1]; exact hk
theorem txtOkB_badI {s : ByteArray} (k : Nat) (hk : k < s.size) (h : ¬ goodI s k) : txtOkB s = false := by
  refine txtOkB_bad k hk ?_
  unfold goodI bef at h
  unfold goodB
  rw [decide_eq_false_iff_not]
  intro ⟨h1, h2⟩
  apply h
  refine ⟨fun e => ?_, h2⟩
  obtain ⟨a, _, c⟩ := h1 e
  simp [a]; exact c
theorem txtOkB_endI {s : ByteArray} (h30 : s.size ≤ 30) (h : ∀ j, j < s.size → goodI s j) (hz : s.size ≠ 0) (hl : bef s s.size ≠ 32) : txtOkB s = true := by
  refine txtOkB_all h30 (fun i hi => ?_)
  have hg := h i hi
  unfold goodI bef at hg
  unfold bef at hl
  unfold goodB
  rw [decide_eq_true_iff]
  refine ⟨fun e => ?_, hg.2⟩
  have h1 := hg.1 e
  by_cases i0 : i = 0
  · simp [i0] at h1
  · simp [i0] at h1
    refine ⟨i0, fun he => ?_, h1⟩
    rw [if_neg hz, ← he] at hl
    simp at hl
    exact hl e
theorem txtOkB_emptyI {s : ByteArray} (hz : s.size = 0) : txtOkB s = true := txtOkB_all (by omega) (fun i hi => by omega)
theorem txtOkB_lastI {s : ByteArray} (hz : s.size ≠ 0) (hl : bef s s.size = 32) : txtOkB s = false := by
  refine txtOkB_bad (s.size - 1) (by omega) ?_
  unfold bef at hl
  rw [if_neg hz] at hl
  unfold goodB
  rw [decide_eq_false_iff_not]
  intro ⟨h1, _⟩
  exact (h1 hl).2.1 (by omega)
theorem bef_succ {s : ByteArray} {k : Nat} (h : k < s.size) : bef s (k + 1) = (s[k].toNat : Int) := by simp [bef, ch, h]

set_option maxRecDepth 100000 in
set_option maxHeartbeats 400000 in
theorem implTxtOk (s : ByteArray) (w : World) (hs : s.size ≤ maxLen) :
    Calls Try.prog 48 #[.string s] w fun e w' => e = .returned (.bool (txtOkB s)) ∧ w' = w := by
  unfold maxLen at hs
  by_cases h30 : s.size ≤ 30
  · go_enter Try.func48, Try.ntmps48
    go_wp2
    go_loop [3, 4, 10] (fun b _ i => ∃ (k : Nat) (B : Int), k ≤ s.size ∧ i = .int .i64 k ∧ b = .int .u8 B ∧ Hid (bef s k = B) ∧ Hid (∀ j, j < k → goodI s j)) (fun _ _ i => s.size - (intOf i).toNat)
    case atStart => exact ⟨0, 32, Nat.zero_le _, rfl, rfl, rfl, fun j hj => absurd hj (Nat.not_lt_zero _)⟩
    case round =>
      obtain ⟨k, B, hk, rfl, rfl, HBf, HA⟩ := hrel
      by_cases hlt : k < s.size
      · have hb : (s[k].toNat : Int) < 256 := by have := s[k].toNat_lt; omega
        have HC : Hid (ch s k = (s[k].toNat : Int)) := ch_at hlt
        have HS : Hid (bef s (k + 1) = (s[k].toNat : Int)) := bef_succ hlt
        by_cases hc : (s[k].toNat : Int) = 32
        · have hc' : ((s[k].toNat : Int) == 32) = true := beq_iff_eq.2 hc
          have hc2 : ((s[k].toNat : Int) != 32) = false := by rw [bne, hc']; rfl
          have HE : Hid (ch s k = 32) := HC.out.trans hc
          clear hc HC hb
          by_cases hB : B = 32
          · as_aux_lemma =>
              have hB' : (B == 32) = true := beq_iff_eq.2 hB
              have HF : Hid (txtOkB s = false) := txtOkB_badI k hlt (fun hg => hg.1 HE.out (HBf.out.trans hB))
              clear hB HE HBf HA HS
              go_wp2
              go_ret
              exact ⟨ret_bool HF.out.symm, rfl⟩
          · as_aux_lemma =>
              have hB' : (B == 32) = false := beq_eq_false_iff_ne.2 hB
              have HN : Hid (∀ j, j < k + 1 → goodI s j) := goodI_next HA.out ⟨fun _ => by rw [HBf.out]; exact hB, fun hne => absurd HE.out hne⟩
              clear hB HE HBf HA
              go_wp2
              go_round
              case rel => exact ⟨k + 1, _, by omega, by go_num, rfl, HS, HN⟩
              case measure => simp [intOf]; omega
        · have hc' : ((s[k].toNat : Int) == 32) = false := beq_eq_false_iff_ne.2 hc
          have hc2 : ((s[k].toNat : Int) != 32) = true := bne_iff_ne.2 hc
          by_cases hr : 97 ≤ (s[k].toNat : Int) ∧ (s[k].toNat : Int) ≤ 122
          · as_aux_lemma =>
              have HN : Hid (∀ j, j < k + 1 → goodI s j) := goodI_next HA.out ⟨fun he => absurd (HC.out.symm.trans he) hc, fun _ => by rw [HC.out]; exact hr⟩
              obtain ⟨hr1, hr2⟩ := hr
              clear HC HA hc HBf
              go_wp2
              go_round
              case rel => exact ⟨k + 1, _, by omega, by go_num, rfl, HS, HN⟩
              case measure => simp [intOf]; omega
          · have HF : Hid (txtOkB s = false) := txtOkB_badI k hlt (fun hg => hr (by have := hg.2 (by rw [HC.out]; exact hc); rw [HC.out] at this; exact this))
            clear HC HA hc HBf HS
            by_cases hr1 : 97 ≤ (s[k].toNat : Int)
            · as_aux_lemma =>
                have hr2 : ¬ (s[k].toNat : Int) ≤ 122 := by omega
                clear hr
                go_wp2
                go_ret
                exact ⟨ret_bool HF.out.symm, rfl⟩
            · as_aux_lemma =>
                clear hr
                go_wp2
                go_ret
                exact ⟨ret_bool HF.out.symm, rfl⟩
      · obtain rfl : k = s.size := by omega
        by_cases hz : s.size = 0
        · have he : s.toList = [] := toList_nil hz
          have HF : Hid (txtOkB s = true) := txtOkB_emptyI hz
          clear HBf HA
          go_wp2
          go_ret
          exact ⟨ret_bool HF.out.symm, rfl⟩
        · have he : ¬ s.toList = [] := fun h => hz (size_nil h)
          have he2 : s.toList.isEmpty = false := by simpa using he
          by_cases hB : B = 32
          · have hB' : (B != 32) = false := by simp [hB]
            have HF : Hid (txtOkB s = false) := txtOkB_lastI hz (HBf.out.trans hB)
            clear HBf HA hB hz he
            go_wp2
            go_ret
            exact ⟨ret_bool HF.out.symm, rfl⟩
          · have hB' : (B != 32) = true := bne_iff_ne.2 hB
            have HF : Hid (txtOkB s = true) := txtOkB_endI h30 HA.out hz (by rw [HBf.out]; exact hB)
            clear HBf HA hB hz he
            go_wp2
            go_ret
            exact ⟨ret_bool HF.out.symm, rfl⟩
  · go_enter Try.func48, Try.ntmps48
    go_wp2
    go_ret
    exact ⟨ret_bool (txtOkB_long h30).symm, rfl⟩
end Go.Proofs.Ytfkkhfiiokhnaag
