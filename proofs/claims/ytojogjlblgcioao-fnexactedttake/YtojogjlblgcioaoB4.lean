/-
  PROVED HERE: what is as it was but one block, for the other texts of this claim. Also: what it is that a call owns the cells, the columns and the rows of a table: it stays where other blocks are turned; such a table lies in memory.
-/
import Derived.Test.YtojogjlblgcioaoB3
import Derived.Lib.SmallJoins
namespace Go.Proofs.Ytojogjlblgcioao
open Go.RowKit

/-- All that was in memory is as it was, but for block r. -/
structure Bk (r : Nat) (w w' : World) : Prop where
  os : w'.os = w.os
  tape : w'.tape = w.tape
  output : w'.output = w.output
  size : w.heap.size ≤ w'.heap.size
  block : ∀ k, k < w.heap.size → k ≠ r → w'.heap[k]? = w.heap[k]?
theorem Bk.refl (r : Nat) (w : World) : Bk r w w := ⟨rfl, rfl, rfl, Nat.le_refl _, fun _ _ _ => rfl⟩
theorem Bk.trans {r : Nat} {a b c : World} (h : Bk r a b) (k : Bk r b c) : Bk r a c :=
  ⟨k.os.trans h.os, k.tape.trans h.tape, k.output.trans h.output, Nat.le_trans h.size k.size, fun i hi hr => (k.block i (Nat.lt_of_lt_of_le hi h.size) hr).trans (h.block i hi hr)⟩
theorem Bk.alloc {r : Nat} {a w : World} (h : Bk r a w) (o : Obj) : Bk r a (w.alloc o) :=
  h.trans ⟨rfl, rfl, rfl, by simp, fun k hk _ => Below.heap_alloc _ _ _ hk⟩
theorem Bk.drewN {r : Nat} {a w : World} (h : Bk r a w) (n : Nat) : Bk r a (w.drewN n) := ⟨h.os, h.tape, h.output, h.size, h.block⟩
theorem Bk.drew {r : Nat} {a w : World} (h : Bk r a w) : Bk r a w.drew := ⟨h.os, h.tape, h.output, h.size, h.block⟩
theorem Bk.set {r : Nat} {a w : World} (h : Bk r a w) {p : Addr} (hp : p.block = r ∨ a.heap.size ≤ p.block) (u : Value) : Bk r a (w.setCell p u) :=
  ⟨h.os, h.tape, h.output, by simpa [World.setCell] using h.size, fun k hk hr => (Below.heap_setCell _ _ _ _ (by omega)).trans (h.block k hk hr)⟩
theorem Bk.below {r : Nat} {w w' : World} (h : Bk r w w') {n : Nat} (hn : n ≤ w.heap.size) (hr : n ≤ r) : Below n w w' := ⟨h.os, h.tape, h.output, h.size, fun k hk => h.block k (by omega) (by omega)⟩
theorem Bk.of_below {r : Nat} {w w' : World} (h : Below w.heap.size w w') : Bk r w w' := ⟨h.os, h.tape, h.output, h.size, fun k hk _ => h.block k hk⟩
theorem Bk.cell {r : Nat} {w w' : World} (h : Bk r w w') {p : Addr} (hp : p.block < w.heap.size) (hr : p.block ≠ r) : w'.cell? p = w.cell? p := World.cell?_of_block (w := w) (h.block p.block hp hr)
theorem Bk.frozen {r : Nat} {w w' : World} (h : Bk r w w') {p : Addr} (hp : p.block < w.heap.size) (hr : p.block ≠ r) : w'.frozen? p = w.frozen? p := World.frozen?_of_block (w := w) (h.block p.block hp hr)
theorem Bk.cells {r : Nat} {w w' : World} (h : Bk r w w') : (∀ b o, b < w.heap.size → b ≠ r → w'.cell? ⟨b, o, none⟩ = w.cell? ⟨b, o, none⟩) ∧ (∀ b o, b < w.heap.size → b ≠ r → w'.frozen? ⟨b, o, none⟩ = w.frozen? ⟨b, o, none⟩) :=
  ⟨fun b o h1 h2 => h.cell (p := ⟨b, o, none⟩) h1 h2, fun b o h1 h2 => h.frozen (p := ⟨b, o, none⟩) h1 h2⟩
end Go.Proofs.Ytojogjlblgcioao
namespace Go.Proofs.Ytojogjlblgcioao
open Go.RowKit

/-- a cell's eleven cells -/
def cellVs (x : C) : List Value := [.string x.s, .int .i64 x.c, .int .i64 x.r, .int .i64 x.a1, .int .i64 x.b1, .int .i64 x.a2, .int .i64 x.b2, .int .i64 x.a3, .int .i64 x.b3, .int .i64 x.a4, .int .i64 x.b4]
def colVs (p : Int × Int) : List Value := [.int .i64 p.1, .int .i64 p.2]
def rowVs (p : Value × R) : List Value := [p.1, .bool p.2.whole]
def OwnC (w : World) (base : Nat) (u : Value) (cs : List C) : Prop := w.ownsRow base 62 11 u cs.length (cs.flatMap cellVs)
def OwnCol (w : World) (base : Nat) (v : Value) (ps : List (Int × Int)) : Prop := w.ownsRow base 120 2 v ps.length (ps.flatMap colVs)
/-- rows, each with its slice of cells -/
structure OwnR (w : World) (base : Nat) (v : Value) (ur : List (Value × R)) : Prop where
  own : w.ownsRow base 88 2 v ur.length (ur.flatMap rowVs)
  cells : ∀ p ∈ ur, OwnC w base p.1 p.2.cells
  apart : ur.Pairwise fun p q => p.1.ownBlock = none ∨ p.1.ownBlock ≠ q.1.ownBlock

/-- what stays: all blocks from n on but these two -/
structure Off (n : Nat) (b1 b2 : Option Nat) (w w' : World) : Prop where
  size : w.heap.size ≤ w'.heap.size
  block : ∀ k, n ≤ k → k < w.heap.size → some k ≠ b1 → some k ≠ b2 → w'.heap[k]? = w.heap[k]?
theorem Off.bk {n r : Nat} {b1 b2 : Option Nat} {w w' : World} (h : Bk r w w') (hr : r < n) : Off n b1 b2 w w' := ⟨h.size, fun k hk hl _ _ => h.block k hl (by omega)⟩
theorem Off.grown {n : Nat} {b1 b2 : Option Nat} {w w' : World} (h : w.grownBy w' b2) : Off n b1 b2 w w' := ⟨h.size, fun k _ hl _ h2 => h.block k hl h2⟩
theorem Off.set {n g : Nat} {b2 : Option Nat} (w : World) (p : Addr) (hp : p.block = g) (v : Value) : Off n (some g) b2 w (w.setCell p v) := ⟨by simp [World.setCell], fun k _ _ h1 _ => Below.heap_setCell _ _ _ _ (fun e => h1 (by rw [e, hp]))⟩

theorem row_off {w w' : World} {base n : Nat} {e : TypeId} {sz : Nat} {v : Value} {m : Nat} {xs : List Value} {b1 b2 : Option Nat} (h : w.ownsRow base e sz v m xs) (k : Off n b1 b2 w w') (hn : n ≤ base) (h1 : v.ownBlock = none ∨ v.ownBlock ≠ b1) (h2 : v.ownBlock = none ∨ v.ownBlock ≠ b2) : w'.ownsRow base e sz v m xs :=
  ⟨h.1, h.2.elim Or.inl (fun ⟨g, cap, cur, hv, hg, hc, q⟩ => Or.inr ⟨g, cap, cur, hv, hg, (k.block g (by omega) (Array.getElem?_eq_some_iff.1 hc).1
    (fun e => by subst hv; rcases h1 with h1 | h1 <;> simp [Value.ownBlock] at h1; exact h1 e)
    (fun e => by subst hv; rcases h2 with h2 | h2 <;> simp [Value.ownBlock] at h2; exact h2 e)).trans hc, q⟩)⟩
/-- a block's kind tells blocks apart -/
theorem row_ne {w : World} {base base' : Nat} {e e' : TypeId} {sz sz' : Nat} {v v' : Value} {m m' : Nat} {xs xs' : List Value} (h : w.ownsRow base e sz v m xs) (h' : w.ownsRow base' e' sz' v' m' xs') (he : e ≠ e') : v.ownBlock = none ∨ v.ownBlock ≠ v'.ownBlock := by
  rcases h.2 with ⟨rfl, _⟩ | ⟨g, cap, cur, rfl, _, hc, _⟩
  · exact .inl rfl
  · refine .inr (fun e1 => ?_)
    rcases h'.2 with ⟨rfl, _⟩ | ⟨g', cap', cur', rfl, _, hc', _⟩
    · simp [Value.ownBlock] at e1
    · simp [Value.ownBlock] at e1
      subst e1
      rw [hc] at hc'
      simp at hc'
      exact he hc'.2
theorem row_ne_block {w : World} {base : Nat} {e e' : TypeId} {sz : Nat} {v : Value} {m : Nat} {xs : List Value} {g : Nat} {cur : Array Value} (h : w.ownsRow base e sz v m xs) (h' : w.heap[g]? = some (.cells cur e')) (he : e ≠ e') : v.ownBlock = none ∨ v.ownBlock ≠ some g := by
  rcases h.2 with ⟨rfl, _⟩ | ⟨g', cap, cur', rfl, _, hc, _⟩
  · exact .inl rfl
  · refine .inr (fun e1 => ?_)
    simp [Value.ownBlock] at e1
    subst e1
    rw [hc] at h'
    simp at h'
    exact he h'.2
theorem row_lt {w : World} {base : Nat} {e : TypeId} {sz : Nat} {v : Value} {m : Nat} {xs : List Value} (h : w.ownsRow base e sz v m xs) {b : Nat} (hb : v.ownBlock = some b) : base ≤ b ∧ b < w.heap.size := by
  rcases h.2 with ⟨rfl, _⟩ | ⟨g, cap, cur, rfl, hg, hc, _⟩
  · simp [Value.ownBlock] at hb
  · simp [Value.ownBlock] at hb
    subst hb
    exact ⟨hg, (Array.getElem?_eq_some_iff.1 hc).1⟩
theorem row_base {w : World} {base base' : Nat} {e : TypeId} {sz : Nat} {v : Value} {m : Nat} {xs : List Value} (h : w.ownsRow base e sz v m xs) (hb : base' ≤ base) : w.ownsRow base' e sz v m xs :=
  ⟨h.1, h.2.elim Or.inl (fun ⟨g, cap, cur, hv, hg, q⟩ => Or.inr ⟨g, cap, cur, hv, by omega, q⟩)⟩
theorem OwnR.off {w w' : World} {base n : Nat} {v : Value} {ur : List (Value × R)} {b1 b2 : Option Nat} (h : OwnR w base v ur) (k : Off n b1 b2 w w') (hn : n ≤ base) (h1 : v.ownBlock = none ∨ v.ownBlock ≠ b1) (h2 : v.ownBlock = none ∨ v.ownBlock ≠ b2)
    (hc : ∀ p ∈ ur, (p.1.ownBlock = none ∨ p.1.ownBlock ≠ b1) ∧ (p.1.ownBlock = none ∨ p.1.ownBlock ≠ b2)) : OwnR w' base v ur :=
  ⟨row_off h.own k hn h1 h2, fun p hp => row_off (h.cells p hp) k hn (hc p hp).1 (hc p hp).2, h.apart⟩
/-- what is not among two blocks -/
def OffV (v : Value) (b1 b2 : Option Nat) : Prop := (v.ownBlock = none ∨ v.ownBlock ≠ b1) ∧ (v.ownBlock = none ∨ v.ownBlock ≠ b2)

theorem getD_get {α : Type} {l : List α} {i : Nat} (d : α) (h : i < l.length) : l.getD i d = l[i] := by simp [List.getD, h]
theorem OwnC.at {w : World} {base : Nat} {u : Value} {cs : List C} (h : OwnC w base u cs) (hs : ∀ x ∈ cs, x.s.size ≤ 61) : CellsAt w base u cs := by
  rcases h.2 with ⟨rfl, hn⟩ | ⟨g, cap, cur, rfl, hg, hc, h1, h2, _⟩
  · exact ⟨none, 0, by rw [hn], by omega, by unfold maxLen; omega, fun i hi => by omega⟩
  · refine ⟨_, cap, rfl, h1, h2, fun i hi => ⟨g, 0, rfl, (Array.getElem?_eq_some_iff.1 hc).1, hg, ?_, ?_⟩⟩
    · have hx : ∀ j, j < 11 → w.cell? ⟨g, i * 11 + j, none⟩ = (cellVs cs[i])[j]? := fun j hj => by
        have e := flat_get cellVs 11 (fun _ => rfl) cs i hi j hj
        rw [row_cell h (u := (cellVs cs[i])[j]'(by show j < 11; exact hj)) (by rw [e]; simp)]
        simp
      rw [getD_get dC hi, Nat.zero_add]
      exact ⟨hx 0 (by omega), hx 1 (by omega), hx 2 (by omega), hx 3 (by omega), hx 4 (by omega), hx 5 (by omega), hx 6 (by omega), hx 7 (by omega), hx 8 (by omega), hx 9 (by omega), hx 10 (by omega)⟩
    · rw [getD_get dC hi]
      have := hs _ (List.getElem_mem hi)
      unfold maxLen
      omega
theorem OwnCol.at {w : World} {base : Nat} {u : Value} {ps : List (Int × Int)} (h : OwnCol w base u ps) : ColsAt w base u ps := by
  rcases h.2 with ⟨rfl, hn⟩ | ⟨g, cap, cur, rfl, hg, hc, h1, h2, _⟩
  · exact ⟨none, 0, by rw [hn], by omega, by unfold maxLen; omega, fun i hi => by omega⟩
  · refine ⟨_, cap, rfl, h1, h2, fun i hi => ⟨g, 0, rfl, (Array.getElem?_eq_some_iff.1 hc).1, hg, ?_⟩⟩
    have hx : ∀ j, j < 2 → w.cell? ⟨g, i * 2 + j, none⟩ = (colVs ps[i])[j]? := fun j hj => by
      have e := flat_get colVs 2 (fun _ => rfl) ps i hi j hj
      rw [row_cell h (u := (colVs ps[i])[j]'(by show j < 2; exact hj)) (by rw [e]; simp)]
      simp
    dsimp only
    rw [getD_get (0, 0) hi, Nat.zero_add]
    exact ⟨hx 0 (by omega), hx 1 (by omega)⟩
theorem OwnR.at {w : World} {base : Nat} {v : Value} {ur : List (Value × R)} (h : OwnR w base v ur) (hs : ∀ p ∈ ur, ∀ x ∈ p.2.cells, x.s.size ≤ 61) : RowsAt w base v (ur.map (·.2)) := by
  have hl : (ur.map (·.2)).length = ur.length := by simp
  rcases h.own.2 with ⟨rfl, hn⟩ | ⟨g, cap, cur, rfl, hg, hc, h1, h2, _⟩
  · exact ⟨none, 0, by rw [hl, hn], by rw [hl]; omega, by unfold maxLen; omega, fun i hi => by rw [hl] at hi; omega⟩
  · refine ⟨_, cap, by rw [hl], by rw [hl]; exact h1, h2, fun i hi => ⟨g, 0, rfl, (Array.getElem?_eq_some_iff.1 hc).1, hg, ?_⟩⟩
    rw [hl] at hi
    have hx : ∀ j, j < 2 → w.cell? ⟨g, i * 2 + j, none⟩ = (rowVs ur[i])[j]? := fun j hj => by
      have e := flat_get rowVs 2 (fun _ => rfl) ur i hi j hj
      rw [row_cell h.own (u := (rowVs ur[i])[j]'(by show j < 2; exact hj)) (by rw [e]; simp)]
      simp
    have hm := List.getElem_mem hi
    dsimp only
    rw [getD_get dR (by rw [hl]; exact hi), Nat.zero_add, List.getElem_map]
    exact ⟨ur[i].1, hx 0 (by omega), hx 1 (by omega), (h.cells _ hm).at (hs _ hm)⟩
end Go.Proofs.Ytojogjlblgcioao
