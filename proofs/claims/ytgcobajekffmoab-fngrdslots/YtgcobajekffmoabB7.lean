/-
  PROVED HERE: a region that draws its order may be walked by what holds between two of its operations, whichever have been carried out. Also: as AnyInv's law, and besides: what an operation hangs on has been carried out ahead of it. Also: small facts for regions that draw their order and append to a row of the call's own: what a slice or a pointer into a new block is; what stays of a row, a block, all else. Also: small facts for the model's l3Of: what stays of a table and a grid of the call's own; what holds between two operations of its first statement.
-/
import Derived.Test.YtgcobajekffmoabB6
import Derived.Orders
namespace Go.Proofs.Ytgcobajekffmoab
open Go.RowKit

def upd (L : Nat → Bool) (i : Nat) : Nat → Bool := fun j => if j = i then true else L j
theorem upd_ne {L : Nat → Bool} {i j : Nat} (h : (j == i) = false) : upd L i j = L j := by
  unfold upd
  rw [if_neg (fun e => by rw [e] at h; simp at h)]
theorem upd_self {L : Nat → Bool} {i : Nat} : upd L i i = true := by simp [upd]
/-- each operation hangs on operations ahead of it alone -/
def aheadB (ops : Array Oper) : Bool := (List.range ops.size).all fun i => ((ops[i]?).map fun o => o.after.all fun e => decide (e.on < i)).getD true
theorem ahead_all {ops : Array Oper} (h : aheadB ops = true) {listed : Array Bool} (hs : listed.size = ops.size) (hr : Region.ready .any ops listed = []) : ∀ i, i < ops.size → listed.getD i false = true := by
  intro i
  induction i using Nat.strongRecOn with
  | ind i ih =>
    intro hi
    cases hl : listed.getD i false with
    | true => rfl
    | false =>
      exfalso
      have ho : ops[i]? = some ops[i] := Array.getElem?_eq_getElem hi
      have h1 := List.all_eq_true.1 h i (List.mem_range.2 hi)
      rw [ho] at h1
      simp only [Option.map_some, Option.getD_some] at h1
      have hm : i ∈ Region.ready .any ops listed := by
        unfold Region.ready
        rw [List.mem_filter]
        refine ⟨List.mem_range.2 hi, ?_⟩
        have h2 : listed.getD i true = false := by
          rw [Array.getD_eq_getD_getElem?, Array.getElem?_eq_getElem (by omega)] at hl ⊢
          exact hl
        rw [h2, ho]
        simp only [Bool.not_false, Bool.true_and, Option.map_some, Option.getD_some]
        rw [Array.all_eq_true_iff_forall_mem]
        intro e he
        have h3 := of_decide_eq_true (Array.all_eq_true_iff_forall_mem.1 h1 e he)
        rw [ih e.on h3 (by omega)]
        simp
      rw [hr] at hm
      cases hm
theorem listed_set {listed : Array Bool} {i : Nat} (hi : i < listed.size) : (fun j => (listed.setIfInBounds i true).getD j false) = upd (fun j => listed.getD j false) i := by
  funext j
  unfold upd
  rw [Array.getD_eq_getD_getElem?]
  by_cases h : j = i
  · subst h; simp [hi]
  · rw [if_neg h, Array.getElem?_setIfInBounds_ne (Ne.symm h)]
    exact (Array.getD_eq_getD_getElem? ..).symm
theorem count_set {l : List Bool} {i : Nat} (h : l[i]? = some false) : (l.set i true).count false + 1 = l.count false := by
  induction l generalizing i with
  | nil => simp at h
  | cons a t ih =>
    cases i with
    | zero => simp at h; subst h; simp
    | succ i =>
      simp at h
      have := ih h
      rw [List.set_cons_succ, List.count_cons, List.count_cons]
      omega

section
variable {P : Program} {ops : Array Oper} {Q : Exit → Act → World → Prop} (J : (Nat → Bool) → Act → World → Prop)
theorem wpAny_inv (hord : aheadB ops = true)
    (hs : ∀ (L : Nat → Bool) (a : Act) (w : World) (i : Nat) (o : Oper), J L a w → ops[i]? = some o → L i = false → (∀ e ∈ o.after, Region.binds .any e = true → L e.on = true) →
      ∀ K : Act → World → Prop, (∀ a' w', J (upd L i) a' w' → K a' w') → if Region.wanted o (yielded ops a.tmps) = true then o.wp P a w K Q else K (a.put o.dst undef) w)
    (hd : ∀ (L : Nat → Bool) (a : Act) (w : World), J L a w → (∀ i, i < ops.size → L i = true) → Q .normal a w) :
    ∀ (fuel : Nat) (listed : Array Bool) (a : Act) (w : World), listed.size = ops.size → listed.toList.count false ≤ fuel → J (fun j => listed.getD j false) a w → wpAny P .any ops Q fuel listed a w := by
  intro fuel
  induction fuel with
  | zero =>
    intro listed a w hsz hc hJ
    have hall : ∀ i, i < ops.size → listed.getD i false = true := by
      intro i hi
      have h0 : listed.toList.count false = 0 := by omega
      have hi' : i < listed.size := by omega
      have := List.count_eq_zero.1 h0
      have hm : listed[i] ∈ listed.toList := by simp
      rw [Array.getD_eq_getD_getElem?, Array.getElem?_eq_getElem hi', Option.getD_some]
      cases hv : listed[i] with
      | true => rfl
      | false => rw [hv] at hm; exact absurd hm this
    refine ⟨?_, hd _ _ _ hJ hall⟩
    unfold Region.ready
    rw [List.filter_eq_nil_iff]
    intro i hi
    have hi2 := List.mem_range.1 hi
    have := hall i hi2
    have h3 : listed.getD i true = true := by
      rw [Array.getD_eq_getD_getElem?, Array.getElem?_eq_getElem (by omega)] at this ⊢
      exact this
    rw [h3]; simp
  | succ fuel ih =>
    intro listed a w hsz hc hJ
    refine ⟨fun hr => hd _ _ _ hJ (ahead_all hord hsz hr), fun i hi => ?_⟩
    unfold Region.ready at hi
    rw [List.mem_filter] at hi
    obtain ⟨h1, h2⟩ := hi
    have hlt := List.mem_range.1 h1
    have ho : ops[i]? = some ops[i] := Array.getElem?_eq_getElem hlt
    rw [ho] at h2
    simp only [Option.map_some, Option.getD_some, Bool.and_eq_true] at h2
    obtain ⟨h3, h4⟩ := h2
    have hil : i < listed.size := by omega
    have hv : listed[i] = false := by
      rw [Array.getD_eq_getD_getElem?, Array.getElem?_eq_getElem hil] at h3
      simpa using h3
    have hfi : listed.getD i false = false := by rw [Array.getD_eq_getD_getElem?, Array.getElem?_eq_getElem hil, hv]; rfl
    have hstep := hs _ a w i ops[i] hJ ho hfi (fun e he hb => by
      have := Array.all_eq_true_iff_forall_mem.1 h4 e he
      rw [hb] at this
      simpa using this) (wpAny P .any ops Q fuel (listed.setIfInBounds i true)) (fun a' w' hJ' => ih _ a' w' (by simpa using hsz) (by
        have := count_set (l := listed.toList) (i := i) (by rw [Array.getElem?_toList, Array.getElem?_eq_getElem hil, hv])
        rw [Array.toList_setIfInBounds]
        omega) (by rw [listed_set hil]; exact hJ'))
    unfold wpOp
    rw [ho]
    dsimp only
    split
    · rename_i hw; rw [if_pos hw] at hstep; exact .inl hstep
    · rename_i hw; rw [if_neg hw] at hstep; exact hstep
theorem wp_region_inv {id : Nat} {a : Act} {w : World} (hm : P.follows .mixedOrders = true) (hord : aheadB ops = true)
    (hs : ∀ (L : Nat → Bool) (a : Act) (w : World) (i : Nat) (o : Oper), J L a w → ops[i]? = some o → L i = false → (∀ e ∈ o.after, Region.binds .any e = true → L e.on = true) →
      ∀ K : Act → World → Prop, (∀ a' w', J (upd L i) a' w' → K a' w') → if Region.wanted o (yielded ops a.tmps) = true then o.wp P a w K Q else K (a.put o.dst undef) w)
    (hd : ∀ (L : Nat → Bool) (a : Act) (w : World), J L a w → (∀ i, i < ops.size → L i = true) → Q .normal a w)
    (h0 : J (fun _ => false) a w.drew) : (Code.region id ops true).wp P Q a w := by
  refine wp_region_any hm (wpAny_inv J hord hs hd _ _ _ _ (by simp) (by simp) ?_)
  have e : (fun j => (Array.replicate ops.size false).getD j false) = fun _ => false := by
    funext j
    rw [Array.getD_eq_getD_getElem?]
    by_cases h : j < ops.size <;> simp [h]
  rw [e]
  exact h0
end

/-- a block of the call's own -/
def Hp (n0 : Nat) (w : World) (g : Nat) (o : Obj) : Prop := n0 ≤ g ∧ w.heap[g]? = some o
theorem Hp.lt {n0 g : Nat} {w : World} {o : Obj} (h : Hp n0 w g o) : g < w.heap.size := (Array.getElem?_eq_some_iff.1 h.2).1
theorem Hp.bk {n0 g r : Nat} {w w' : World} {o : Obj} (h : Hp n0 w g o) (hr : r < n0) (k : Bk r w w') : Hp n0 w' g o := ⟨h.1, (k.block g h.lt (by have := h.1; omega)).trans h.2⟩
theorem Hp.alloc {n0 g : Nat} {w : World} {o : Obj} (h : Hp n0 w g o) (q : Obj) : Hp n0 (w.alloc q) g o := ⟨h.1, (Below.heap_alloc _ _ _ h.lt).trans h.2⟩
theorem Hp.new {n0 : Nat} {w : World} (h : n0 ≤ w.heap.size) (q : Obj) : Hp n0 (w.alloc q) w.heap.size q := ⟨h, by show (w.heap.push q)[w.heap.size]? = _; simp⟩
/-- a number within bounds -/
def PI (lo hi : Int) (u : Value) : Prop := ∃ k : Int, u = .int .i64 k ∧ lo ≤ k ∧ k ≤ hi
/-- a short text -/
def PS (n : Nat) (u : Value) : Prop := ∃ s : ByteArray, u = .string s ∧ s.size ≤ n
/-- a list of numbers that has been written out -/
def PL (n0 : Nat) (w : World) (n : Nat) (arr : Array Value) (u : Value) : Prop := ∃ g, u = .slice (some ⟨g, 0, none⟩) n n ∧ Hp n0 w g (.cells arr 3)
/-- a place in such a list -/
def PA (n0 : Nat) (w : World) (lo hi : Int) (u : Value) : Prop := ∃ g k arr, u = .pointer (some ⟨g, k, none⟩) ∧ Hp n0 w g (.cells arr 3) ∧ ∃ v : Int, arr[k]? = some (.int .i64 v) ∧ lo ≤ v ∧ v ≤ hi
theorem PL.bk {n0 n r : Nat} {w w' : World} {arr : Array Value} {u : Value} (h : PL n0 w n arr u) (hr : r < n0) (k : Bk r w w') : PL n0 w' n arr u := by
  obtain ⟨g, e, hg⟩ := h; exact ⟨g, e, hg.bk hr k⟩
theorem PA.bk {n0 r : Nat} {w w' : World} {lo hi : Int} {u : Value} (h : PA n0 w lo hi u) (hr : r < n0) (k : Bk r w w') : PA n0 w' lo hi u := by
  obtain ⟨g, k', arr, e, hg, hv⟩ := h; exact ⟨g, k', arr, e, hg.bk hr k, hv⟩
theorem bk_alloc (r : Nat) (w : World) (o : Obj) : Bk r w (w.alloc o) := (Bk.refl r w).alloc o
end Go.Proofs.Ytgcobajekffmoab
namespace Go.Proofs.Ytgcobajekffmoab
open Go.RowKit

/-- whether operation j hangs on operation i -/
def edgeB (ops : Array Oper) (j i : Nat) : Bool := ((ops[j]?).map fun o => o.after.toList.any fun e => Region.binds .any e && e.on == i).getD false
def Closed (ops : Array Oper) (L : Nat → Bool) : Prop := ∀ j i, edgeB ops j i = true → L i = false → L j = false
theorem Closed.next {ops : Array Oper} {L : Nat → Bool} (h : Closed ops L) {k : Nat} {o : Oper} (ho : ops[k]? = some o) (ha : ∀ e ∈ o.after, Region.binds .any e = true → L e.on = true) : Closed ops (upd L k) := by
  intro j i he hi
  have hik : i ≠ k := fun e => by subst e; rw [upd_self] at hi; cases hi
  have hi' : L i = false := by simpa [upd, hik] using hi
  have hj := h j i he hi'
  have hjk : j ≠ k := by
    intro e
    subst e
    unfold edgeB at he
    rw [ho] at he
    simp only [Option.map_some, Option.getD_some, List.any_eq_true, Bool.and_eq_true, beq_iff_eq] at he
    obtain ⟨e, he1, he2, he3⟩ := he
    have := ha e (by simpa using he1) he2
    rw [he3, hi'] at this
    cases this
  simpa [upd, hjk] using hj
theorem wp_region_inv2 {P : Program} {ops : Array Oper} {Q : Exit → Act → World → Prop} (J : (Nat → Bool) → Act → World → Prop) {id : Nat} {a : Act} {w : World} (hm : P.follows .mixedOrders = true) (hord : aheadB ops = true)
    (hs : ∀ (L : Nat → Bool) (a : Act) (w : World) (i : Nat) (o : Oper), J L a w → Closed ops L → ops[i]? = some o → L i = false → (∀ e ∈ o.after, Region.binds .any e = true → L e.on = true) →
      ∀ K : Act → World → Prop, (∀ a' w', J (upd L i) a' w' → K a' w') → if Region.wanted o (yielded ops a.tmps) = true then o.wp P a w K Q else K (a.put o.dst undef) w)
    (hd : ∀ (L : Nat → Bool) (a : Act) (w : World), J L a w → (∀ i, i < ops.size → L i = true) → Q .normal a w)
    (h0 : J (fun _ => false) a w.drew) : (Code.region id ops true).wp P Q a w :=
  wp_region_inv (fun L a w => J L a w ∧ Closed ops L) hm hord
    (fun L a w i o hJ ho hi ha K hK => hs L a w i o hJ.1 hJ.2 ho hi ha K (fun a' w' hJ' => hK a' w' ⟨hJ', hJ.2.next ho ha⟩))
    (fun L a w hJ hall => hd L a w hJ.1 hall) ⟨h0, fun _ _ _ _ => rfl⟩
end Go.Proofs.Ytgcobajekffmoab
namespace Go.Proofs.Ytgcobajekffmoab
open Go.RowKit

/-- a slice of m elements over a new block of such cells -/
def PB (n0 : Nat) (w : World) (t : TypeId) (m : Nat) (P : Array Value → Prop) (u : Value) : Prop := ∃ g arr, u = .slice (some ⟨g, 0, none⟩) m m ∧ Hp n0 w g (.cells arr t) ∧ P arr
/-- a pointer into a new block of such cells -/
def PP (n0 : Nat) (w : World) (t : TypeId) (P : Array Value → Nat → Prop) (u : Value) : Prop := ∃ g k arr, u = .pointer (some ⟨g, k, none⟩) ∧ Hp n0 w g (.cells arr t) ∧ P arr k
theorem PB.bk {n0 m r : Nat} {w w' : World} {t : TypeId} {P : Array Value → Prop} {u : Value} (h : PB n0 w t m P u) (hr : r < n0) (k : Bk r w w') : PB n0 w' t m P u := by
  obtain ⟨g, arr, e, hg, hp⟩ := h; exact ⟨g, arr, e, hg.bk hr k, hp⟩
theorem PP.bk {n0 r : Nat} {w w' : World} {t : TypeId} {P : Array Value → Nat → Prop} {u : Value} (h : PP n0 w t P u) (hr : r < n0) (k : Bk r w w') : PP n0 w' t P u := by
  obtain ⟨g, i, arr, e, hg, hp⟩ := h; exact ⟨g, i, arr, e, hg.bk hr k, hp⟩
theorem row_bk {w w' : World} {base r : Nat} {e : TypeId} {sz : Nat} {v : Value} {m : Nat} {xs : List Value} (h : w.ownsRow base e sz v m xs) (k : Bk r w w') (hr : r < base) : w'.ownsRow base e sz v m xs :=
  ⟨h.1, h.2.elim Or.inl (fun ⟨g, cap, cur, hv, hg, hc, q⟩ => Or.inr ⟨g, cap, cur, hv, hg, (k.block g (Array.getElem?_eq_some_iff.1 hc).1 (by omega)).trans hc, q⟩)⟩
theorem Bk.grown {r : Nat} {a b c : World} {u : Option Nat} (h : Bk r a b) (k : b.grownBy c u) (hu : ∀ i, u = some i → a.heap.size ≤ i) : Bk r a c :=
  ⟨k.os.trans h.os, k.tape.trans h.tape, k.output.trans h.output, Nat.le_trans h.size k.size, fun i hi hr => (k.block i (Nat.lt_of_lt_of_le hi h.size) (fun e => by have := hu i e.symm; omega)).trans (h.block i hi hr)⟩
theorem Rd.grown {r B : Nat} {b c : World} {u : Option Nat} (h : Rd b r B) (k : b.grownBy c u) (hu : ∀ i, u = some i → r < i) : Rd c r B :=
  h.keep (fun i hi => k.block i (Nat.lt_of_le_of_lt hi h.lt) (fun e => by have := hu i e.symm; omega))
theorem blk_grown {b c : World} {u : Option Nat} {g : Nat} {o : Obj} (h : b.heap[g]? = some o) (k : b.grownBy c u) (hu : some g ≠ u) : c.heap[g]? = some o :=
  (k.block g (Array.getElem?_eq_some_iff.1 h).1 hu).trans h
theorem ne_of_own {v : Value} {g : Nat} (h : v.ownBlock = none ∨ v.ownBlock ≠ some g) : some g ≠ v.ownBlock := fun e => by
  rcases h with h | h
  · rw [h] at e; cases e
  · exact h e.symm
/-- a store beside a row -/
theorem row_set {w : World} {base : Nat} {e e' : TypeId} {sz : Nat} {v : Value} {m : Nat} {xs : List Value} {g p : Nat} {cur : Array Value} (h : w.ownsRow base e sz v m xs) (h' : w.heap[g]? = some (.cells cur e')) (he : e ≠ e') (u : Value) : (w.setCell ⟨g, p, none⟩ u).ownsRow base e sz v m xs :=
  row_off (n := base) (b1 := some g) (b2 := none) h (Off.set w ⟨g, p, none⟩ rfl u) (Nat.le_refl _) (row_ne_block h h' he) (by cases v.ownBlock <;> simp)
theorem news_at {w : World} {g : Nat} {arr : Array Value} {t : TypeId} (h : w.heap[g]? = some (.cells arr t)) : ∀ j u, arr.toList[j]? = some u → w.cell? ((⟨g, 0, none⟩ : Addr).add j) = some u := fun j u hu => by
  have e : (⟨g, 0, none⟩ : Addr).add j = ⟨g, j, none⟩ := by simp [Addr.add]; intro h; exact h.symm
  rw [e, cellB h, ← Array.getElem?_toList]
  exact hu
/-- what else is to stay while a row is appended to, and a block is written -/
def Stays (n0 tb : Nat) (u : Value) (F : World → Prop) : Prop := ∀ w w', F w → Off n0 (some tb) u.ownBlock w w' → F w'
end Go.Proofs.Ytgcobajekffmoab
namespace Go.Proofs.Ytgcobajekffmoab
open Go.RowKit

structure OfJ (n0 : Nat) (W0 : World) (ac ar : Option Addr) (cc cr : Nat) (t : T) (L : Nat → Bool) (w : World) (v3 v8 v9 v10 v11 v12 v13 v14 v15 : Value) : Prop where
  f0 : L 0 = true → v8 = .pointer (some ⟨n0, 3, none⟩)
  f1 : L 1 = true → v9 = .slice ar t.rows.length cr
  f2 : L 2 = true → v10 = .int .i64 (t.rows.length : Int)
  f3 : L 3 = true → v11 = .pointer (some ⟨n0, 0, none⟩)
  f4 : L 4 = true → v12 = .slice ac t.cols.length cc
  f5 : L 5 = true → v13 = .int .i64 (t.cols.length : Int)
  f6 : L 6 = true → v14 = .int .i64 (max 1 (t.cols.length : Int))
  f7 : L 7 = true → v15 = .agg #[.int .i64 (t.rows.length : Int), .int .i64 (max 1 (t.cols.length : Int)), .slice none 0 0]
  f8 : L 8 = true → ∃ g, v3 = .pointer (some ⟨g, 0, none⟩) ∧ W0.heap.size ≤ g ∧ (L 9 = false → w.heap[g]? = some (.cells #[.int .i64 0, .int .i64 0, .slice none 0 0] 39))
  f9 : L 9 = true → ∃ g, v3 = .pointer (some ⟨g, 0, none⟩) ∧ W0.heap.size ≤ g ∧ w.heap[g]? = some (.cells #[.int .i64 (t.rows.length : Int), .int .i64 (max 1 (t.cols.length : Int)), .slice none 0 0] 39)
  o9 : L 9 = true → L 8 = true
  bk : Below W0.heap.size W0 w
def ofJ (n0 : Nat) (W0 : World) (ac ar : Option Addr) (cc cr : Nat) (t : T) (mk : Value → Value → Value → Value → Value → Value → Value → Value → Value → Act) (L : Nat → Bool) (a : Act) (w : World) : Prop := ∃ v3 v8 v9 v10 v11 v12 v13 v14 v15 : Value, a = mk v3 v8 v9 v10 v11 v12 v13 v14 v15 ∧ OfJ n0 W0 ac ar cc cr t L w v3 v8 v9 v10 v11 v12 v13 v14 v15
theorem threeZ {w : World} {g : Nat} {x0 x1 x2 : Value} {t : TypeId} (h : w.heap[g]? = some (.cells #[x0, x1, x2] t)) :
    (w.cell? ⟨g, 0, none⟩ = some x0 ∧ w.cell? ⟨g, 1, none⟩ = some x1 ∧ w.cell? ⟨g, 2, none⟩ = some x2) ∧ w.frozen? ⟨g, 0, none⟩ = false ∧ w.frozen? ⟨g, 1, none⟩ = false ∧ w.frozen? ⟨g, 2, none⟩ = false :=
  ⟨⟨cellB h, cellB h, cellB h⟩, freeB h, freeB h, freeB h⟩
/-- what stays all along: the table, the answer's block, the grid -/
structure SG (w : World) (gb : Nat) (ac ar : Option Addr) (cc cr : Nat) (t : T) (C : Int) (vg : Value) (gs : List GC) (W : World) : Prop where
  bel : Below w.heap.size w W
  tbl : W.heap[w.heap.size]? = some (.cells #[.slice ac t.cols.length cc, .int .i64 t.head, .int .i64 t.foot, .slice ar t.rows.length cr, .int .i64 t.gap] 26)
  res : W.heap[w.heap.size + 1]? = some (.cells #[.int .i64 0, .int .i64 0, .slice none 0 0] 39)
  grd : W.heap[gb]? = some (.cells #[.int .i64 (t.rows.length : Int), .int .i64 C, vg] 39)
  own : OwnG W (w.heap.size + 2) vg gs
theorem fiveT {w : World} {g : Nat} {x0 x1 x2 x3 x4 : Value} {t : TypeId} (h : w.heap[g]? = some (.cells #[x0, x1, x2, x3, x4] t)) :
    (w.cell? ⟨g, 0, none⟩ = some x0 ∧ w.cell? ⟨g, 1, none⟩ = some x1 ∧ w.cell? ⟨g, 2, none⟩ = some x2 ∧ w.cell? ⟨g, 3, none⟩ = some x3 ∧ w.cell? ⟨g, 4, none⟩ = some x4) ∧ w.frozen? ⟨g, 0, none⟩ = false ∧ w.frozen? ⟨g, 1, none⟩ = false ∧ w.frozen? ⟨g, 2, none⟩ = false ∧ w.frozen? ⟨g, 3, none⟩ = false ∧ w.frozen? ⟨g, 4, none⟩ = false :=
  ⟨⟨cellB h, cellB h, cellB h, cellB h, cellB h⟩, freeB h, freeB h, freeB h, freeB h, freeB h⟩
theorem blk_kept {w w' : World} {g : Nat} {o : Obj} (h : w.heap[g]? = some o) (hb : Below w.heap.size w w') : w'.heap[g]? = some o := (hb.block g (Array.getElem?_eq_some_iff.1 h).1).trans h
theorem row_kept {w w' : World} {base : Nat} {e : TypeId} {sz : Nat} {v : Value} {m : Nat} {xs : List Value} (h : w.ownsRow base e sz v m xs) (k : Below w.heap.size w w') : w'.ownsRow base e sz v m xs :=
  ⟨h.1, h.2.elim Or.inl (fun ⟨g, cap, cur, hv, hg, hc, q⟩ => Or.inr ⟨g, cap, cur, hv, hg, blk_kept hc k, q⟩)⟩
theorem SG.kept {w W W' : World} {gb : Nat} {ac ar : Option Addr} {cc cr : Nat} {t : T} {C : Int} {vg : Value} {gs : List GC} (h : SG w gb ac ar cc cr t C vg gs W) (k : Below W.heap.size W W') : SG w gb ac ar cc cr t C vg gs W' :=
  ⟨h.bel.trans (k.mono h.bel.size), blk_kept h.tbl k, blk_kept h.res k, blk_kept h.grd k, row_kept h.own k⟩
theorem own_ne' {v : Value} {g : Nat} (h : ∀ b, v.ownBlock = some b → b ≠ g) : some g ≠ v.ownBlock := fun e => h g e.symm rfl
/-- one block, of the call's own, may be turned -/
theorem SG.bkc {w W W' : World} {gb cb : Nat} {ac ar : Option Addr} {cc cr : Nat} {t : T} {C : Int} {vg : Value} {gs : List GC} (h : SG w gb ac ar cc cr t C vg gs W) (k : Bk cb W W') (hcb : w.heap.size + 2 ≤ cb) (hne : gb ≠ cb) (hv : ∀ b, vg.ownBlock = some b → b ≠ cb) : SG w gb ac ar cc cr t C vg gs W' :=
  ⟨h.bel.trans (k.below h.bel.size (by omega)), (k.block _ (Array.getElem?_eq_some_iff.1 h.tbl).1 (by omega)).trans h.tbl, (k.block _ (Array.getElem?_eq_some_iff.1 h.res).1 (by omega)).trans h.res, (k.block _ (Array.getElem?_eq_some_iff.1 h.grd).1 hne).trans h.grd,
    row_off (n := w.heap.size + 2) (b1 := some cb) (b2 := none) h.own ⟨k.size, fun j _ hj h1 _ => k.block j hj (fun e => h1 (by rw [e]))⟩ (Nat.le_refl _) (by
      cases hb : vg.ownBlock with
      | none => exact .inl rfl
      | some b => exact .inr (fun e => by injection e with e; exact hv b hb e)) (by cases vg.ownBlock <;> simp)⟩
end Go.Proofs.Ytgcobajekffmoab
