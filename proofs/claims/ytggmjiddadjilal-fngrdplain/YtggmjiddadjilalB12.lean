/-
  PROVED HERE: as AnyInv's law, and besides: what an operation hangs on has been carried out ahead of it. Also: as AnyInv's law, and besides: what an operation hangs on has been carried out ahead of it. Also: small facts for regions that draw their order and append to a row of the call's own: what a slice or a pointer into a new block is; what stays of a row, a block, all else. Also: what holds between two operations of the two statements of l20Table that draw their order. Also: what the model's BrdOk answers at every border. Also: what the model's CellOk answers at every cell whose text is a Go string. Also: what the model's l2Col answers at every column.
-/
import Derived.Test.YtggmjiddadjilalB7
import Derived.Test.YtggmjiddadjilalB8
import Derived.Test.YtggmjiddadjilalB5
import Derived.Test.YtggmjiddadjilalB6
import Derived.Test.YtggmjiddadjilalB11
namespace Go.Proofs.Ytggmjiddadjilal
open Go.RowKit

/-- whether operation j hangs on operation i -/
def edgeB (ops : Array Oper) (j i : Nat) : Bool := ((ops[j]?).map fun o => o.after.toList.any fun e => Region.binds .any e && e.on == i).getD false
def Closed (ops : Array Oper) (L : Nat → Bool) : Prop := ∀ j i, edgeB ops j i = true → L i = false → L j = false
theorem Closed.next {ops : Array Oper} {L : Nat → Bool} (h : Closed ops L) {k : Nat} {o : Oper} (ho : ops[k]? = some o) (ha : ∀ e ∈ o.after, Region.binds .any e = true → L e.on = true) : Closed ops (upd L k) := by
  intro j i he hi
  have hik : i ≠ k := fun e => by subst e; rw [upd_self] at hi; cases hi
  have hi' : L i = false := by simpa [upd, hik] using hi
  have hj := h j i he hi'
  have hjk : j ≠ k := by
    intro e
    subst e
    unfold edgeB at he
    rw [ho] at he
    simp only [Option.map_some, Option.getD_some, List.any_eq_true, Bool.and_eq_true, beq_iff_eq] at he
    obtain ⟨e, he1, he2, he3⟩ := he
    have := ha e (by simpa using he1) he2
    rw [he3, hi'] at this
    cases this
  simpa [upd, hjk] using hj
theorem wp_region_inv2 {P : Program} {ops : Array Oper} {Q : Exit → Act → World → Prop} (J : (Nat → Bool) → Act → World → Prop) {id : Nat} {a : Act} {w : World} (hm : P.follows .mixedOrders = true) (hord : aheadB ops = true)
    (hs : ∀ (L : Nat → Bool) (a : Act) (w : World) (i : Nat) (o : Oper), J L a w → Closed ops L → ops[i]? = some o → L i = false → (∀ e ∈ o.after, Region.binds .any e = true → L e.on = true) →
      ∀ K : Act → World → Prop, (∀ a' w', J (upd L i) a' w' → K a' w') → if Region.wanted o (yielded ops a.tmps) = true then o.wp P a w K Q else K (a.put o.dst undef) w)
    (hd : ∀ (L : Nat → Bool) (a : Act) (w : World), J L a w → (∀ i, i < ops.size → L i = true) → Q .normal a w)
    (h0 : J (fun _ => false) a w.drew) : (Code.region id ops true).wp P Q a w :=
  wp_region_inv (fun L a w => J L a w ∧ Closed ops L) hm hord
    (fun L a w i o hJ ho hi ha K hK => hs L a w i o hJ.1 hJ.2 ho hi ha K (fun a' w' hJ' => hK a' w' ⟨hJ', hJ.2.next ho ha⟩))
    (fun L a w hJ hall => hd L a w hJ.1 hall) ⟨h0, fun _ _ _ _ => rfl⟩
end Go.Proofs.Ytggmjiddadjilal
namespace Go.Proofs.Ytggmjiddadjilal
end Go.Proofs.Ytggmjiddadjilal
namespace Go.Proofs.Ytggmjiddadjilal
open Go.RowKit

/-- a slice of m elements over a new block of such cells -/
def PB (n0 : Nat) (w : World) (t : TypeId) (m : Nat) (P : Array Value → Prop) (u : Value) : Prop := ∃ g arr, u = .slice (some ⟨g, 0, none⟩) m m ∧ Hp n0 w g (.cells arr t) ∧ P arr
/-- a pointer into a new block of such cells -/
def PP (n0 : Nat) (w : World) (t : TypeId) (P : Array Value → Nat → Prop) (u : Value) : Prop := ∃ g k arr, u = .pointer (some ⟨g, k, none⟩) ∧ Hp n0 w g (.cells arr t) ∧ P arr k
theorem PB.bk {n0 m r : Nat} {w w' : World} {t : TypeId} {P : Array Value → Prop} {u : Value} (h : PB n0 w t m P u) (hr : r < n0) (k : Bk r w w') : PB n0 w' t m P u := by
  obtain ⟨g, arr, e, hg, hp⟩ := h; exact ⟨g, arr, e, hg.bk hr k, hp⟩
theorem PP.bk {n0 r : Nat} {w w' : World} {t : TypeId} {P : Array Value → Nat → Prop} {u : Value} (h : PP n0 w t P u) (hr : r < n0) (k : Bk r w w') : PP n0 w' t P u := by
  obtain ⟨g, i, arr, e, hg, hp⟩ := h; exact ⟨g, i, arr, e, hg.bk hr k, hp⟩
theorem row_bk {w w' : World} {base r : Nat} {e : TypeId} {sz : Nat} {v : Value} {m : Nat} {xs : List Value} (h : w.ownsRow base e sz v m xs) (k : Bk r w w') (hr : r < base) : w'.ownsRow base e sz v m xs :=
  ⟨h.1, h.2.elim Or.inl (fun ⟨g, cap, cur, hv, hg, hc, q⟩ => Or.inr ⟨g, cap, cur, hv, hg, (k.block g (Array.getElem?_eq_some_iff.1 hc).1 (by omega)).trans hc, q⟩)⟩
theorem Bk.grown {r : Nat} {a b c : World} {u : Option Nat} (h : Bk r a b) (k : b.grownBy c u) (hu : ∀ i, u = some i → a.heap.size ≤ i) : Bk r a c :=
  ⟨k.os.trans h.os, k.tape.trans h.tape, k.output.trans h.output, Nat.le_trans h.size k.size, fun i hi hr => (k.block i (Nat.lt_of_lt_of_le hi h.size) (fun e => by have := hu i e.symm; omega)).trans (h.block i hi hr)⟩
theorem Rd.grown {r B : Nat} {b c : World} {u : Option Nat} (h : Rd b r B) (k : b.grownBy c u) (hu : ∀ i, u = some i → r < i) : Rd c r B :=
  h.keep (fun i hi => k.block i (Nat.lt_of_le_of_lt hi h.lt) (fun e => by have := hu i e.symm; omega))
theorem blk_grown {b c : World} {u : Option Nat} {g : Nat} {o : Obj} (h : b.heap[g]? = some o) (k : b.grownBy c u) (hu : some g ≠ u) : c.heap[g]? = some o :=
  (k.block g (Array.getElem?_eq_some_iff.1 h).1 hu).trans h
theorem ne_of_own {v : Value} {g : Nat} (h : v.ownBlock = none ∨ v.ownBlock ≠ some g) : some g ≠ v.ownBlock := fun e => by
  rcases h with h | h
  · rw [h] at e; cases e
  · exact h e.symm
/-- a store beside a row -/
theorem row_set {w : World} {base : Nat} {e e' : TypeId} {sz : Nat} {v : Value} {m : Nat} {xs : List Value} {g p : Nat} {cur : Array Value} (h : w.ownsRow base e sz v m xs) (h' : w.heap[g]? = some (.cells cur e')) (he : e ≠ e') (u : Value) : (w.setCell ⟨g, p, none⟩ u).ownsRow base e sz v m xs :=
  row_off (n := base) (b1 := some g) (b2 := none) h (Off.set w ⟨g, p, none⟩ rfl u) (Nat.le_refl _) (row_ne_block h h' he) (by cases v.ownBlock <;> simp)
/-- what else is to stay while a row is appended to, and a block is written -/
def Stays (n0 tb : Nat) (u : Value) (F : World → Prop) : Prop := ∀ w w', F w → Off n0 (some tb) u.ownBlock w w' → F w'
end Go.Proofs.Ytggmjiddadjilal
namespace Go.Proofs.Ytggmjiddadjilal
open Go.RowKit

/-- what is known of a cell that was drawn -/
def Cx (x : C) : Prop := x.s.size ≤ 61 ∧ (x.r ≤ 3 ∨ x.r = 5)
theorem pair4 (a b k : Int) (h0 : 0 ≤ k) (h1 : k < 4) : ∃ x y : Int, (#[.int .i64 0, .int .i64 0, .int .i64 0, .int .i64 0, .int .i64 1, .int .i64 a, .int .i64 2, .int .i64 b] : Array Value)[k.toNat * 2]? = some (.int .i64 x) ∧ (#[.int .i64 0, .int .i64 0, .int .i64 0, .int .i64 0, .int .i64 1, .int .i64 a, .int .i64 2, .int .i64 b] : Array Value)[k.toNat * 2 + 1]? = some (.int .i64 y) := by
  rcases (by omega : k = 0 ∨ k = 1 ∨ k = 2 ∨ k = 3) with rfl | rfl | rfl | rfl
  · exact ⟨0, 0, rfl, rfl⟩
  · exact ⟨0, 0, rfl, rfl⟩
  · exact ⟨1, a, rfl, rfl⟩
  · exact ⟨2, b, rfl, rfl⟩
theorem infoCol : (Try.prog.info? 76).map (fun i => (i.zero, i.size, i.bytes)) = some (some (Value.agg #[.int .i64 0, .int .i64 0]), 2, 16) := by kernel_rfl
theorem infoCell : (Try.prog.info? 29).map (fun i => (i.zero, i.size, i.bytes)) = some (some (Value.agg #[.string ⟨#[]⟩, .int .i64 0, .int .i64 0, .int .i64 0, .int .i64 0, .int .i64 0, .int .i64 0, .int .i64 0, .int .i64 0, .int .i64 0, .int .i64 0]), 11, 96) := by kernel_rfl
theorem infoRow : (Try.prog.info? 51).map (fun i => (i.zero, i.size, i.bytes)) = some (some (Value.agg #[.slice none 0 0, .bool false]), 2, 32) := by kernel_rfl
def colRCnt (L : Nat → Bool) : Nat := (if L 5 = true then 1 else 0) + (if L 9 = true then 1 else 0) + (if L 15 = true then 1 else 0)
theorem colRCnt_le (L : Nat → Bool) : colRCnt L ≤ 3 := by unfold colRCnt; (repeat (first | omega | split))
theorem colRCnt_5 {L : Nat → Bool} (h : L 5 = false) : colRCnt (upd L 5) = colRCnt L + 1 := by simp [colRCnt, upd, h]; omega
theorem colRCnt_9 {L : Nat → Bool} (h : L 9 = false) : colRCnt (upd L 9) = colRCnt L + 1 := by simp [colRCnt, upd, h]; omega
theorem colRCnt_15 {L : Nat → Bool} (h : L 15 = false) : colRCnt (upd L 15) = colRCnt L + 1 := by simp [colRCnt, upd, h]
theorem colRCnt_same {L : Nat → Bool} {i : Nat} (h : i ≠ 5 ∧ i ≠ 9 ∧ i ≠ 15) : colRCnt (upd L i) = colRCnt L := by
  have k5 : (5 : Nat) ≠ i := fun e => (h.1) e.symm
  have k9 : (9 : Nat) ≠ i := fun e => (h.2.1) e.symm
  have k15 : (15 : Nat) ≠ i := fun e => (h.2.2) e.symm
  simp [colRCnt, upd, k5, k9, k15]
structure colRJ (r B n0 : Nat) (w0 : World) (F : World → Prop) (base : Nat) (U : Value) (nn : Nat) (xs : List Value) (tb : Nat) (tc : Array Value)  (L : Nat → Bool) (w : World) (v18 v19 v20 v21 v22 v23 v24 v25 v26 v27 v28 v29 v30 v31 v32 v33 v34 v35 v36 v37 v38 : Value) : Prop where
  f0 : L 0 = true → v18 = .pointer (some ⟨tb, 0, none⟩)
  f1 : L 1 = true → v19 = U
  f2 : L 2 = true → v20 = .agg #[.int .i64 0, .int .i64 0]
  f3 : L 3 = true → v21 = .agg #[.int .i64 0, .int .i64 0]
  f4 : L 4 = true → v22 = .pointer (some ⟨r, 0, none⟩)
  f5 : L 5 = true → PI 0 29 v23
  f6 : L 6 = true → ∃ k : Int, v24 = .agg #[.int .i64 1, .int .i64 k]
  f7 : L 7 = true → L 19 = false → PB n0 w 3 4 (fun arr => arr = #[.int .i64 10, .int .i64 25, .int .i64 50, .int .i64 100]) v25
  f8 : L 8 = true → v26 = .pointer (some ⟨r, 0, none⟩)
  f9 : L 9 = true → PI 0 3 v27
  f10 : L 10 = true → L 19 = false → PP n0 w 3 (fun arr k => ∃ v : Int, arr[k]? = some (.int .i64 v)) v28
  f11 : L 11 = true → ∃ v : Int, v29 = .int .i64 v
  f12 : L 12 = true → ∃ v : Int, v30 = .agg #[.int .i64 2, .int .i64 v]
  f13 : L 13 = true → L 19 = false → PB n0 w 76 4 (fun arr => ∃ a b : Int, arr = #[.int .i64 0, .int .i64 0, .int .i64 0, .int .i64 0, .int .i64 1, .int .i64 a, .int .i64 2, .int .i64 b]) v31
  f14 : L 14 = true → v32 = .pointer (some ⟨r, 0, none⟩)
  f15 : L 15 = true → PI 0 3 v33
  f16 : L 16 = true → L 19 = false → PP n0 w 76 (fun arr k => ∃ x y : Int, arr[k]? = some (.int .i64 x) ∧ arr[k + 1]? = some (.int .i64 y)) v34
  f17 : L 17 = true → ∃ x y : Int, v35 = .agg #[.int .i64 x, .int .i64 y]
  f18 : L 18 = true → L 19 = false → PB n0 w 76 1 (fun arr => ∃ x y : Int, arr = #[.int .i64 x, .int .i64 y]) v36
  f20 : L 20 = true → v38 = .pointer (some ⟨tb, 0, none⟩)
  rd : Rd w r (B + colRCnt L)
  bk : Bk r w0 w
  fr : F w
  own : L 19 = false → w.ownsRow base 76 2 U nn xs
  ownA : L 19 = true → ∃ nw, (∃ p, nw = colVs p) ∧ w.ownsRow base 76 2 v37 (nn + 1) (xs ++ nw)
  tb0 : L 21 = false → w.heap[tb]? = some (.cells tc 37)
  tb1 : L 21 = true → w.heap[tb]? = some (.cells (tc.setIfInBounds (0) v37) 37)
def colR (r B n0 : Nat) (w0 : World) (F : World → Prop) (base : Nat) (U : Value) (nn : Nat) (xs : List Value) (tb : Nat) (tc : Array Value)  (mk : Value → Value → Value → Value → Value → Value → Value → Value → Value → Value → Value → Value → Value → Value → Value → Value → Value → Value → Value → Value → Value → Act) (L : Nat → Bool) (a : Act) (w : World) : Prop := ∃ v18 v19 v20 v21 v22 v23 v24 v25 v26 v27 v28 v29 v30 v31 v32 v33 v34 v35 v36 v37 v38 : Value, a = mk v18 v19 v20 v21 v22 v23 v24 v25 v26 v27 v28 v29 v30 v31 v32 v33 v34 v35 v36 v37 v38 ∧ colRJ r B n0 w0 F base U nn xs tb tc L w v18 v19 v20 v21 v22 v23 v24 v25 v26 v27 v28 v29 v30 v31 v32 v33 v34 v35 v36 v37 v38
def rowRCnt (L : Nat → Bool) : Nat := (if L 3 = true then 50 else 0)
theorem rowRCnt_le (L : Nat → Bool) : rowRCnt L ≤ 50 := by unfold rowRCnt; (repeat (first | omega | split))
theorem rowRCnt_3 {L : Nat → Bool} (h : L 3 = false) : rowRCnt (upd L 3) = rowRCnt L + 50 := by simp [rowRCnt, upd, h]
theorem rowRCnt_same {L : Nat → Bool} {i : Nat} (h : i ≠ 3) : rowRCnt (upd L i) = rowRCnt L := by
  have k3 : (3 : Nat) ≠ i := fun e => (h) e.symm
  simp [rowRCnt, upd, k3]
structure rowRJ (r B n0 : Nat) (w0 : World) (F : World → Prop) (base : Nat) (U : Value) (nn : Nat) (xs : List Value) (tb : Nat) (tc : Array Value)  (L : Nat → Bool) (w : World) (v57 v58 v59 v60 v61 v62 v63 : Value) : Prop where
  f0 : L 0 = true → v57 = .pointer (some ⟨tb, 0, none⟩)
  f1 : L 1 = true → v58 = U
  f2 : L 2 = true → v59 = .pointer (some ⟨r, 0, none⟩)
  f3 : L 3 = true → ∃ x : C, v60 = .agg #[.string x.s, .int .i64 x.c, .int .i64 x.r, .int .i64 x.a1, .int .i64 x.b1, .int .i64 x.a2, .int .i64 x.b2, .int .i64 x.a3, .int .i64 x.b3, .int .i64 x.a4, .int .i64 x.b4] ∧ Cx x
  f4 : L 4 = true → L 5 = false → PB n0 w 29 1 (fun arr => ∃ x : C, arr = (cellVs x).toArray ∧ Cx x) v61
  f6 : L 6 = true → v63 = .pointer (some ⟨tb, 0, none⟩)
  rd : Rd w r (B + rowRCnt L)
  bk : Bk r w0 w
  fr : F w
  own : L 5 = false → w.ownsRow base 29 11 U nn xs
  ownA : L 5 = true → ∃ nw, (∃ x, nw = cellVs x ∧ Cx x) ∧ w.ownsRow base 29 11 v62 (nn + 1) (xs ++ nw)
  tb0 : L 7 = false → w.heap[tb]? = some (.cells tc 51)
  tb1 : L 7 = true → w.heap[tb]? = some (.cells (tc.setIfInBounds (0) v62) 51)
def rowR (r B n0 : Nat) (w0 : World) (F : World → Prop) (base : Nat) (U : Value) (nn : Nat) (xs : List Value) (tb : Nat) (tc : Array Value)  (mk : Value → Value → Value → Value → Value → Value → Value → Act) (L : Nat → Bool) (a : Act) (w : World) : Prop := ∃ v57 v58 v59 v60 v61 v62 v63 : Value, a = mk v57 v58 v59 v60 v61 v62 v63 ∧ rowRJ r B n0 w0 F base U nn xs tb tc L w v57 v58 v59 v60 v61 v62 v63
end Go.Proofs.Ytggmjiddadjilal
namespace Go.Proofs.Ytggmjiddadjilal
open Go.RowKit

set_option maxRecDepth 100000 in
set_option maxHeartbeats 400000 in
theorem specBrdOk (a b : Int) (w : World) :
    Calls Try.prog 16 #[.agg #[.int .i64 a, .int .i64 b]] w fun e w' => e = .returned (.bool (brdOkB a b)) ∧ w' = w.alloc (.cells #[.int .i64 a, .int .i64 b] 27) := by
  by_cases h0 : a = 0
  · subst h0
    go_enter Try.func16, Try.ntmps16
    go_wp2
    go_ret
    exact ⟨retB (brd_zero b).symm, rfl⟩
  by_cases h4 : a = 4
  · subst h4
    go_enter Try.func16, Try.ntmps16
    go_wp2
    go_ret
    exact ⟨retB (brd_four b).symm, rfl⟩
  have e0 : (a == 0) = false := beq_eq_false_iff_ne.2 h0
  have e4 : (a == 4) = false := beq_eq_false_iff_ne.2 h4
  by_cases h : 1 ≤ a ∧ a ≤ 3
  · have hi : inB a 1 3 = true := inB_true h.1 h.2
    have HB : Hid (brdOkB a b = inB b 1 3) := brd_seen b h.1 h.2
    clear h h0 h4
    go_enter Try.func16, Try.ntmps16
    go_wp2_with (go_at_call 33; refine (l1In_any _ _ _ _).mono ?_; rintro e w' ⟨rfl, rfl⟩)
    go_ret
    exact ⟨retB HB.out.symm, rfl⟩
  · have hi : inB a 1 3 = false := inB_false h
    have HB : Hid (brdOkB a b = false) := brd_other b h0 h4 h
    clear h h0 h4
    go_enter Try.func16, Try.ntmps16
    go_wp2_with (go_at_call 33; refine (l1In_any _ _ _ _).mono ?_; rintro e w' ⟨rfl, rfl⟩)
    go_ret
    exact ⟨retB HB.out.symm, rfl⟩
end Go.Proofs.Ytggmjiddadjilal
namespace Go.Proofs.Ytggmjiddadjilal
open Go.RowKit

set_option maxRecDepth 100000 in
set_option maxHeartbeats 1000000 in
theorem specCellOk (s : ByteArray) (c r a1 b1 a2 b2 a3 b3 a4 b4 : Int) (w : World) (hs : s.size ≤ maxLen) :
    Calls Try.prog 14 #[.agg #[.string s, .int .i64 c, .int .i64 r, .int .i64 a1, .int .i64 b1, .int .i64 a2, .int .i64 b2, .int .i64 a3, .int .i64 b3, .int .i64 a4, .int .i64 b4]] w fun e w' => e = .returned (.bool (cellOkB s c r a1 b1 a2 b2 a3 b3 a4 b4)) ∧ Below w.heap.size w w' := by
  cases h0 : txtOkB s
  ·
    as_aux_lemma =>
      have HB : Hid (cellOkB s c r a1 b1 a2 b2 a3 b3 a4 b4 = false) := Hid.mk (by simp [cellOkB, h0])
      go_enter Try.func14, Try.ntmps14
      go_wp2_with (first | (go_at_call 10; refine (specTxtOk _ _ hs).mono ?_; rintro e w' ⟨rfl, rfl⟩) | (go_at_call 33; refine (l1In_any _ _ _ _).mono ?_; rintro e w' ⟨rfl, rfl⟩) | (go_at_call 16; refine (specBrdOk _ _ _).mono ?_; rintro e w' ⟨rfl, rfl⟩))
      go_ret
      exact ⟨retB HB.out.symm, by repeat (first | exact Below.refl _ _ | apply k_alloc)⟩
  cases h1 : inB c 1 4
  ·
    as_aux_lemma =>
      have HB : Hid (cellOkB s c r a1 b1 a2 b2 a3 b3 a4 b4 = false) := Hid.mk (by simp [cellOkB, h0, h1])
      go_enter Try.func14, Try.ntmps14
      go_wp2_with (first | (go_at_call 10; refine (specTxtOk _ _ hs).mono ?_; rintro e w' ⟨rfl, rfl⟩) | (go_at_call 33; refine (l1In_any _ _ _ _).mono ?_; rintro e w' ⟨rfl, rfl⟩) | (go_at_call 16; refine (specBrdOk _ _ _).mono ?_; rintro e w' ⟨rfl, rfl⟩))
      go_ret
      exact ⟨retB HB.out.symm, by repeat (first | exact Below.refl _ _ | apply k_alloc)⟩
  cases h2 : inB r 1 4
  ·
    as_aux_lemma =>
      have HB : Hid (cellOkB s c r a1 b1 a2 b2 a3 b3 a4 b4 = false) := Hid.mk (by simp [cellOkB, h0, h1, h2])
      go_enter Try.func14, Try.ntmps14
      go_wp2_with (first | (go_at_call 10; refine (specTxtOk _ _ hs).mono ?_; rintro e w' ⟨rfl, rfl⟩) | (go_at_call 33; refine (l1In_any _ _ _ _).mono ?_; rintro e w' ⟨rfl, rfl⟩) | (go_at_call 16; refine (specBrdOk _ _ _).mono ?_; rintro e w' ⟨rfl, rfl⟩))
      go_ret
      exact ⟨retB HB.out.symm, by repeat (first | exact Below.refl _ _ | apply k_alloc)⟩
  cases h3 : brdOkB a1 b1
  ·
    as_aux_lemma =>
      have HB : Hid (cellOkB s c r a1 b1 a2 b2 a3 b3 a4 b4 = false) := Hid.mk (by simp [cellOkB, h0, h1, h2, h3])
      go_enter Try.func14, Try.ntmps14
      go_wp2_with (first | (go_at_call 10; refine (specTxtOk _ _ hs).mono ?_; rintro e w' ⟨rfl, rfl⟩) | (go_at_call 33; refine (l1In_any _ _ _ _).mono ?_; rintro e w' ⟨rfl, rfl⟩) | (go_at_call 16; refine (specBrdOk _ _ _).mono ?_; rintro e w' ⟨rfl, rfl⟩))
      go_ret
      exact ⟨retB HB.out.symm, by repeat (first | exact Below.refl _ _ | apply k_alloc)⟩
  cases h4 : brdOkB a2 b2
  ·
    as_aux_lemma =>
      have HB : Hid (cellOkB s c r a1 b1 a2 b2 a3 b3 a4 b4 = false) := Hid.mk (by simp [cellOkB, h0, h1, h2, h3, h4])
      go_enter Try.func14, Try.ntmps14
      go_wp2_with (first | (go_at_call 10; refine (specTxtOk _ _ hs).mono ?_; rintro e w' ⟨rfl, rfl⟩) | (go_at_call 33; refine (l1In_any _ _ _ _).mono ?_; rintro e w' ⟨rfl, rfl⟩) | (go_at_call 16; refine (specBrdOk _ _ _).mono ?_; rintro e w' ⟨rfl, rfl⟩))
      go_ret
      exact ⟨retB HB.out.symm, by repeat (first | exact Below.refl _ _ | apply k_alloc)⟩
  cases h5 : brdOkB a3 b3
  ·
    as_aux_lemma =>
      have HB : Hid (cellOkB s c r a1 b1 a2 b2 a3 b3 a4 b4 = false) := Hid.mk (by simp [cellOkB, h0, h1, h2, h3, h4, h5])
      go_enter Try.func14, Try.ntmps14
      go_wp2_with (first | (go_at_call 10; refine (specTxtOk _ _ hs).mono ?_; rintro e w' ⟨rfl, rfl⟩) | (go_at_call 33; refine (l1In_any _ _ _ _).mono ?_; rintro e w' ⟨rfl, rfl⟩) | (go_at_call 16; refine (specBrdOk _ _ _).mono ?_; rintro e w' ⟨rfl, rfl⟩))
      go_ret
      exact ⟨retB HB.out.symm, by repeat (first | exact Below.refl _ _ | apply k_alloc)⟩
  as_aux_lemma =>
    have HB : Hid (cellOkB s c r a1 b1 a2 b2 a3 b3 a4 b4 = brdOkB a4 b4) := Hid.mk (by simp [cellOkB, h0, h1, h2, h3, h4, h5])
    go_enter Try.func14, Try.ntmps14
    go_wp2_with (first | (go_at_call 10; refine (specTxtOk _ _ hs).mono ?_; rintro e w' ⟨rfl, rfl⟩) | (go_at_call 33; refine (l1In_any _ _ _ _).mono ?_; rintro e w' ⟨rfl, rfl⟩) | (go_at_call 16; refine (specBrdOk _ _ _).mono ?_; rintro e w' ⟨rfl, rfl⟩))
    go_ret
    exact ⟨retB HB.out.symm, by repeat (first | exact Below.refl _ _ | apply k_alloc)⟩
end Go.Proofs.Ytggmjiddadjilal
namespace Go.Proofs.Ytggmjiddadjilal
open Go.RowKit

set_option maxRecDepth 100000 in
set_option maxHeartbeats 1000000 in
theorem specL2Col (k n : Int) (w : World) :
    Calls Try.prog 43 #[.agg #[.int .i64 k, .int .i64 n]] w fun e w' => e = .returned (.bool (colB k n)) ∧ Below w.heap.size w w' := by
  by_cases h0 : k = 0
  · subst h0
    have HC := Hid.intro (colB_0' n)
    go_enter Try.func43, Try.ntmps43
    go_wp2
    go_ret
    exact ⟨retB HC.out.symm, by repeat (first | refine k_alloc ?_ _ | exact Below.refl _ _)⟩
  by_cases h1 : k = 1
  · subst h1
    have HC := Hid.intro (colB_1 n)
    go_enter Try.func43, Try.ntmps43
    go_wp2_with (go_at_call 33; refine (l1In_any _ _ _ _).mono ?_; rintro e w' ⟨rfl, rfl⟩)
    go_ret
    exact ⟨retB HC.out.symm, by repeat (first | refine k_alloc ?_ _ | exact Below.refl _ _)⟩
  by_cases h2 : k = 2
  · subst h2
    have HC := Hid.intro (colB_2 n)
    go_enter Try.func43, Try.ntmps43
    go_wp2_with (go_at_call 33; refine (l1In_any _ _ _ _).mono ?_; rintro e w' ⟨rfl, rfl⟩)
    go_ret
    exact ⟨retB HC.out.symm, by repeat (first | refine k_alloc ?_ _ | exact Below.refl _ _)⟩
  have e0 : (k == 0) = false := beq_eq_false_iff_ne.2 h0
  have e1 : (k == 1) = false := beq_eq_false_iff_ne.2 h1
  have e2 : (k == 2) = false := beq_eq_false_iff_ne.2 h2
  have HC := Hid.intro (colB_no n h0 h1 h2)
  clear h0 h1 h2
  go_enter Try.func43, Try.ntmps43
  go_wp2
  go_ret
  exact ⟨retB HC.out.symm, by repeat (first | refine k_alloc ?_ _ | exact Below.refl _ _)⟩
end Go.Proofs.Ytggmjiddadjilal
