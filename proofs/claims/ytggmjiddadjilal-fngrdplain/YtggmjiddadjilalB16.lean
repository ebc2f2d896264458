/-
  PROVED HERE: small facts for the model's l3Of: what stays of a table and a grid of the call's own; what holds between two operations of its first statement.
-/
import Derived.Test.YtggmjiddadjilalB7
import Derived.Test.YtggmjiddadjilalB12
namespace Go.Proofs.Ytggmjiddadjilal
open Go.RowKit

structure OfJ (n0 : Nat) (W0 : World) (ac ar : Option Addr) (cc cr : Nat) (t : T) (L : Nat → Bool) (w : World) (v3 v8 v9 v10 v11 v12 v13 v14 v15 : Value) : Prop where
  f0 : L 0 = true → v8 = .pointer (some ⟨n0, 3, none⟩)
  f1 : L 1 = true → v9 = .slice ar t.rows.length cr
  f2 : L 2 = true → v10 = .int .i64 (t.rows.length : Int)
  f3 : L 3 = true → v11 = .pointer (some ⟨n0, 0, none⟩)
  f4 : L 4 = true → v12 = .slice ac t.cols.length cc
  f5 : L 5 = true → v13 = .int .i64 (t.cols.length : Int)
  f6 : L 6 = true → v14 = .int .i64 (max 1 (t.cols.length : Int))
  f7 : L 7 = true → v15 = .agg #[.int .i64 (t.rows.length : Int), .int .i64 (max 1 (t.cols.length : Int)), .slice none 0 0]
  f8 : L 8 = true → ∃ g, v3 = .pointer (some ⟨g, 0, none⟩) ∧ W0.heap.size ≤ g ∧ (L 9 = false → w.heap[g]? = some (.cells #[.int .i64 0, .int .i64 0, .slice none 0 0] 42))
  f9 : L 9 = true → ∃ g, v3 = .pointer (some ⟨g, 0, none⟩) ∧ W0.heap.size ≤ g ∧ w.heap[g]? = some (.cells #[.int .i64 (t.rows.length : Int), .int .i64 (max 1 (t.cols.length : Int)), .slice none 0 0] 42)
  o9 : L 9 = true → L 8 = true
  bk : Below W0.heap.size W0 w
def ofJ (n0 : Nat) (W0 : World) (ac ar : Option Addr) (cc cr : Nat) (t : T) (mk : Value → Value → Value → Value → Value → Value → Value → Value → Value → Act) (L : Nat → Bool) (a : Act) (w : World) : Prop := ∃ v3 v8 v9 v10 v11 v12 v13 v14 v15 : Value, a = mk v3 v8 v9 v10 v11 v12 v13 v14 v15 ∧ OfJ n0 W0 ac ar cc cr t L w v3 v8 v9 v10 v11 v12 v13 v14 v15
theorem threeZ {w : World} {g : Nat} {x0 x1 x2 : Value} {t : TypeId} (h : w.heap[g]? = some (.cells #[x0, x1, x2] t)) :
    (w.cell? ⟨g, 0, none⟩ = some x0 ∧ w.cell? ⟨g, 1, none⟩ = some x1 ∧ w.cell? ⟨g, 2, none⟩ = some x2) ∧ w.frozen? ⟨g, 0, none⟩ = false ∧ w.frozen? ⟨g, 1, none⟩ = false ∧ w.frozen? ⟨g, 2, none⟩ = false :=
  ⟨⟨cellB h, cellB h, cellB h⟩, freeB h, freeB h, freeB h⟩
/-- what stays all along: the table, the answer's block, the grid -/
structure SG (w : World) (gb : Nat) (ac ar : Option Addr) (cc cr : Nat) (t : T) (C : Int) (vg : Value) (gs : List GC) (W : World) : Prop where
  bel : Below w.heap.size w W
  tbl : W.heap[w.heap.size]? = some (.cells #[.slice ac t.cols.length cc, .int .i64 t.head, .int .i64 t.foot, .slice ar t.rows.length cr, .int .i64 t.gap] 37)
  res : W.heap[w.heap.size + 1]? = some (.cells #[.int .i64 0, .int .i64 0, .slice none 0 0] 42)
  grd : W.heap[gb]? = some (.cells #[.int .i64 (t.rows.length : Int), .int .i64 C, vg] 42)
  own : OwnG W (w.heap.size + 2) vg gs
theorem fiveT {w : World} {g : Nat} {x0 x1 x2 x3 x4 : Value} {t : TypeId} (h : w.heap[g]? = some (.cells #[x0, x1, x2, x3, x4] t)) :
    (w.cell? ⟨g, 0, none⟩ = some x0 ∧ w.cell? ⟨g, 1, none⟩ = some x1 ∧ w.cell? ⟨g, 2, none⟩ = some x2 ∧ w.cell? ⟨g, 3, none⟩ = some x3 ∧ w.cell? ⟨g, 4, none⟩ = some x4) ∧ w.frozen? ⟨g, 0, none⟩ = false ∧ w.frozen? ⟨g, 1, none⟩ = false ∧ w.frozen? ⟨g, 2, none⟩ = false ∧ w.frozen? ⟨g, 3, none⟩ = false ∧ w.frozen? ⟨g, 4, none⟩ = false :=
  ⟨⟨cellB h, cellB h, cellB h, cellB h, cellB h⟩, freeB h, freeB h, freeB h, freeB h, freeB h⟩
theorem blk_kept {w w' : World} {g : Nat} {o : Obj} (h : w.heap[g]? = some o) (hb : Below w.heap.size w w') : w'.heap[g]? = some o := (hb.block g (Array.getElem?_eq_some_iff.1 h).1).trans h
theorem row_kept {w w' : World} {base : Nat} {e : TypeId} {sz : Nat} {v : Value} {m : Nat} {xs : List Value} (h : w.ownsRow base e sz v m xs) (k : Below w.heap.size w w') : w'.ownsRow base e sz v m xs :=
  ⟨h.1, h.2.elim Or.inl (fun ⟨g, cap, cur, hv, hg, hc, q⟩ => Or.inr ⟨g, cap, cur, hv, hg, blk_kept hc k, q⟩)⟩
theorem SG.kept {w W W' : World} {gb : Nat} {ac ar : Option Addr} {cc cr : Nat} {t : T} {C : Int} {vg : Value} {gs : List GC} (h : SG w gb ac ar cc cr t C vg gs W) (k : Below W.heap.size W W') : SG w gb ac ar cc cr t C vg gs W' :=
  ⟨h.bel.trans (k.mono h.bel.size), blk_kept h.tbl k, blk_kept h.res k, blk_kept h.grd k, row_kept h.own k⟩
theorem own_ne' {v : Value} {g : Nat} (h : ∀ b, v.ownBlock = some b → b ≠ g) : some g ≠ v.ownBlock := fun e => h g e.symm rfl
/-- one block, of the call's own, may be turned -/
theorem SG.bkc {w W W' : World} {gb cb : Nat} {ac ar : Option Addr} {cc cr : Nat} {t : T} {C : Int} {vg : Value} {gs : List GC} (h : SG w gb ac ar cc cr t C vg gs W) (k : Bk cb W W') (hcb : w.heap.size + 2 ≤ cb) (hne : gb ≠ cb) (hv : ∀ b, vg.ownBlock = some b → b ≠ cb) : SG w gb ac ar cc cr t C vg gs W' :=
  ⟨h.bel.trans (k.below h.bel.size (by omega)), (k.block _ (Array.getElem?_eq_some_iff.1 h.tbl).1 (by omega)).trans h.tbl, (k.block _ (Array.getElem?_eq_some_iff.1 h.res).1 (by omega)).trans h.res, (k.block _ (Array.getElem?_eq_some_iff.1 h.grd).1 hne).trans h.grd,
    row_off (n := w.heap.size + 2) (b1 := some cb) (b2 := none) h.own ⟨k.size, fun j _ hj h1 _ => k.block j hj (fun e => h1 (by rw [e]))⟩ (Nat.le_refl _) (by
      cases hb : vg.ownBlock with
      | none => exact .inl rfl
      | some b => exact .inr (fun e => by injection e with e; exact hv b hb e)) (by cases vg.ownBlock <;> simp)⟩
end Go.Proofs.Ytggmjiddadjilal
