/-
  PROVED HERE: what it is that a call owns the cells, the columns and the rows of a table: it stays where other blocks are turned; such a table lies in memory. Also: what the drawing reader's l20Open and pick answer: a reader over the code; a number from 0 to n - 1; of what was in memory nothing is turned but the reader's own place. Also: what a border that is ok is, as a Bool.
-/
import Derived.Test.YtggmjiddadjilalB5
import Derived.Test.YtggmjiddadjilalB4
import Derived.WalkLawsBesides
import Derived.WalkSpells
import Derived.Deep.QuietTactic
import Derived.BigQuiet
import Derived.Laws.BitsAllLaws
import Derived.RegionTactic
import Derived.Lib.SmallJoins
import Derived.OpenShut
import Derived.WalkKit
import Derived.ProofKit
import Derived.Below
namespace Go.Proofs.Ytggmjiddadjilal
open Go.RowKit

/-- a cell's eleven cells -/
def cellVs (x : C) : List Value := [.string x.s, .int .i64 x.c, .int .i64 x.r, .int .i64 x.a1, .int .i64 x.b1, .int .i64 x.a2, .int .i64 x.b2, .int .i64 x.a3, .int .i64 x.b3, .int .i64 x.a4, .int .i64 x.b4]
def colVs (p : Int × Int) : List Value := [.int .i64 p.1, .int .i64 p.2]
def rowVs (p : Value × R) : List Value := [p.1, .bool p.2.whole]
def OwnC (w : World) (base : Nat) (u : Value) (cs : List C) : Prop := w.ownsRow base 29 11 u cs.length (cs.flatMap cellVs)
def OwnCol (w : World) (base : Nat) (v : Value) (ps : List (Int × Int)) : Prop := w.ownsRow base 76 2 v ps.length (ps.flatMap colVs)
/-- rows, each with its slice of cells -/
structure OwnR (w : World) (base : Nat) (v : Value) (ur : List (Value × R)) : Prop where
  own : w.ownsRow base 51 2 v ur.length (ur.flatMap rowVs)
  cells : ∀ p ∈ ur, OwnC w base p.1 p.2.cells
  apart : ur.Pairwise fun p q => p.1.ownBlock = none ∨ p.1.ownBlock ≠ q.1.ownBlock

/-- what stays: all blocks from n on but these two -/
structure Off (n : Nat) (b1 b2 : Option Nat) (w w' : World) : Prop where
  size : w.heap.size ≤ w'.heap.size
  block : ∀ k, n ≤ k → k < w.heap.size → some k ≠ b1 → some k ≠ b2 → w'.heap[k]? = w.heap[k]?
theorem Off.bk {n r : Nat} {b1 b2 : Option Nat} {w w' : World} (h : Bk r w w') (hr : r < n) : Off n b1 b2 w w' := ⟨h.size, fun k hk hl _ _ => h.block k hl (by omega)⟩
theorem Off.grown {n : Nat} {b1 b2 : Option Nat} {w w' : World} (h : w.grownBy w' b2) : Off n b1 b2 w w' := ⟨h.size, fun k _ hl _ h2 => h.block k hl h2⟩
theorem Off.set {n g : Nat} {b2 : Option Nat} (w : World) (p : Addr) (hp : p.block = g) (v : Value) : Off n (some g) b2 w (w.setCell p v) := ⟨by simp [World.setCell], fun k _ _ h1 _ => Below.heap_setCell _ _ _ _ (fun e => h1 (by rw [e, hp]))⟩

theorem row_off {w w' : World} {base n : Nat} {e : TypeId} {sz : Nat} {v : Value} {m : Nat} {xs : List Value} {b1 b2 : Option Nat} (h : w.ownsRow base e sz v m xs) (k : Off n b1 b2 w w') (hn : n ≤ base) (h1 : v.ownBlock = none ∨ v.ownBlock ≠ b1) (h2 : v.ownBlock = none ∨ v.ownBlock ≠ b2) : w'.ownsRow base e sz v m xs :=
  ⟨h.1, h.2.elim Or.inl (fun ⟨g, cap, cur, hv, hg, hc, q⟩ => Or.inr ⟨g, cap, cur, hv, hg, (k.block g (by omega) (Array.getElem?_eq_some_iff.1 hc).1
    (fun e => by subst hv; rcases h1 with h1 | h1 <;> simp [Value.ownBlock] at h1; exact h1 e)
    (fun e => by subst hv; rcases h2 with h2 | h2 <;> simp [Value.ownBlock] at h2; exact h2 e)).trans hc, q⟩)⟩
/-- a block's kind tells blocks apart -/
theorem row_ne {w : World} {base base' : Nat} {e e' : TypeId} {sz sz' : Nat} {v v' : Value} {m m' : Nat} {xs xs' : List Value} (h : w.ownsRow base e sz v m xs) (h' : w.ownsRow base' e' sz' v' m' xs') (he : e ≠ e') : v.ownBlock = none ∨ v.ownBlock ≠ v'.ownBlock := by
  rcases h.2 with ⟨rfl, _⟩ | ⟨g, cap, cur, rfl, _, hc, _⟩
  · exact .inl rfl
  · refine .inr (fun e1 => ?_)
    rcases h'.2 with ⟨rfl, _⟩ | ⟨g', cap', cur', rfl, _, hc', _⟩
    · simp [Value.ownBlock] at e1
    · simp [Value.ownBlock] at e1
      subst e1
      rw [hc] at hc'
      simp at hc'
      exact he hc'.2
theorem row_ne_block {w : World} {base : Nat} {e e' : TypeId} {sz : Nat} {v : Value} {m : Nat} {xs : List Value} {g : Nat} {cur : Array Value} (h : w.ownsRow base e sz v m xs) (h' : w.heap[g]? = some (.cells cur e')) (he : e ≠ e') : v.ownBlock = none ∨ v.ownBlock ≠ some g := by
  rcases h.2 with ⟨rfl, _⟩ | ⟨g', cap, cur', rfl, _, hc, _⟩
  · exact .inl rfl
  · refine .inr (fun e1 => ?_)
    simp [Value.ownBlock] at e1
    subst e1
    rw [hc] at h'
    simp at h'
    exact he h'.2
theorem row_lt {w : World} {base : Nat} {e : TypeId} {sz : Nat} {v : Value} {m : Nat} {xs : List Value} (h : w.ownsRow base e sz v m xs) {b : Nat} (hb : v.ownBlock = some b) : base ≤ b ∧ b < w.heap.size := by
  rcases h.2 with ⟨rfl, _⟩ | ⟨g, cap, cur, rfl, hg, hc, _⟩
  · simp [Value.ownBlock] at hb
  · simp [Value.ownBlock] at hb
    subst hb
    exact ⟨hg, (Array.getElem?_eq_some_iff.1 hc).1⟩
theorem row_base {w : World} {base base' : Nat} {e : TypeId} {sz : Nat} {v : Value} {m : Nat} {xs : List Value} (h : w.ownsRow base e sz v m xs) (hb : base' ≤ base) : w.ownsRow base' e sz v m xs :=
  ⟨h.1, h.2.elim Or.inl (fun ⟨g, cap, cur, hv, hg, q⟩ => Or.inr ⟨g, cap, cur, hv, by omega, q⟩)⟩
theorem OwnR.off {w w' : World} {base n : Nat} {v : Value} {ur : List (Value × R)} {b1 b2 : Option Nat} (h : OwnR w base v ur) (k : Off n b1 b2 w w') (hn : n ≤ base) (h1 : v.ownBlock = none ∨ v.ownBlock ≠ b1) (h2 : v.ownBlock = none ∨ v.ownBlock ≠ b2)
    (hc : ∀ p ∈ ur, (p.1.ownBlock = none ∨ p.1.ownBlock ≠ b1) ∧ (p.1.ownBlock = none ∨ p.1.ownBlock ≠ b2)) : OwnR w' base v ur :=
  ⟨row_off h.own k hn h1 h2, fun p hp => row_off (h.cells p hp) k hn (hc p hp).1 (hc p hp).2, h.apart⟩
/-- what is not among two blocks -/
def OffV (v : Value) (b1 b2 : Option Nat) : Prop := (v.ownBlock = none ∨ v.ownBlock ≠ b1) ∧ (v.ownBlock = none ∨ v.ownBlock ≠ b2)

theorem getD_get {α : Type} {l : List α} {i : Nat} (d : α) (h : i < l.length) : l.getD i d = l[i] := by simp [List.getD, h]
theorem OwnC.at {w : World} {base : Nat} {u : Value} {cs : List C} (h : OwnC w base u cs) (hs : ∀ x ∈ cs, x.s.size ≤ 61) : CellsAt w base u cs := by
  rcases h.2 with ⟨rfl, hn⟩ | ⟨g, cap, cur, rfl, hg, hc, h1, h2, _⟩
  · exact ⟨none, 0, by rw [hn], by omega, by unfold maxLen; omega, fun i hi => by omega⟩
  · refine ⟨_, cap, rfl, h1, h2, fun i hi => ⟨g, 0, rfl, (Array.getElem?_eq_some_iff.1 hc).1, hg, ?_, ?_⟩⟩
    · have hx : ∀ j, j < 11 → w.cell? ⟨g, i * 11 + j, none⟩ = (cellVs cs[i])[j]? := fun j hj => by
        have e := flat_get cellVs 11 (fun _ => rfl) cs i hi j hj
        rw [row_cell h (u := (cellVs cs[i])[j]'(by show j < 11; exact hj)) (by rw [e]; simp)]
        simp
      rw [getD_get dC hi, Nat.zero_add]
      exact ⟨hx 0 (by omega), hx 1 (by omega), hx 2 (by omega), hx 3 (by omega), hx 4 (by omega), hx 5 (by omega), hx 6 (by omega), hx 7 (by omega), hx 8 (by omega), hx 9 (by omega), hx 10 (by omega)⟩
    · rw [getD_get dC hi]
      have := hs _ (List.getElem_mem hi)
      unfold maxLen
      omega
theorem OwnCol.at {w : World} {base : Nat} {u : Value} {ps : List (Int × Int)} (h : OwnCol w base u ps) : ColsAt w base u ps := by
  rcases h.2 with ⟨rfl, hn⟩ | ⟨g, cap, cur, rfl, hg, hc, h1, h2, _⟩
  · exact ⟨none, 0, by rw [hn], by omega, by unfold maxLen; omega, fun i hi => by omega⟩
  · refine ⟨_, cap, rfl, h1, h2, fun i hi => ⟨g, 0, rfl, (Array.getElem?_eq_some_iff.1 hc).1, hg, ?_⟩⟩
    have hx : ∀ j, j < 2 → w.cell? ⟨g, i * 2 + j, none⟩ = (colVs ps[i])[j]? := fun j hj => by
      have e := flat_get colVs 2 (fun _ => rfl) ps i hi j hj
      rw [row_cell h (u := (colVs ps[i])[j]'(by show j < 2; exact hj)) (by rw [e]; simp)]
      simp
    dsimp only
    rw [getD_get (0, 0) hi, Nat.zero_add]
    exact ⟨hx 0 (by omega), hx 1 (by omega)⟩
theorem OwnR.at {w : World} {base : Nat} {v : Value} {ur : List (Value × R)} (h : OwnR w base v ur) (hs : ∀ p ∈ ur, ∀ x ∈ p.2.cells, x.s.size ≤ 61) : RowsAt w base v (ur.map (·.2)) := by
  have hl : (ur.map (·.2)).length = ur.length := by simp
  rcases h.own.2 with ⟨rfl, hn⟩ | ⟨g, cap, cur, rfl, hg, hc, h1, h2, _⟩
  · exact ⟨none, 0, by rw [hl, hn], by rw [hl]; omega, by unfold maxLen; omega, fun i hi => by rw [hl] at hi; omega⟩
  · refine ⟨_, cap, by rw [hl], by rw [hl]; exact h1, h2, fun i hi => ⟨g, 0, rfl, (Array.getElem?_eq_some_iff.1 hc).1, hg, ?_⟩⟩
    rw [hl] at hi
    have hx : ∀ j, j < 2 → w.cell? ⟨g, i * 2 + j, none⟩ = (rowVs ur[i])[j]? := fun j hj => by
      have e := flat_get rowVs 2 (fun _ => rfl) ur i hi j hj
      rw [row_cell h.own (u := (rowVs ur[i])[j]'(by show j < 2; exact hj)) (by rw [e]; simp)]
      simp
    have hm := List.getElem_mem hi
    dsimp only
    rw [getD_get dR (by rw [hl]; exact hi), Nat.zero_add, List.getElem_map]
    exact ⟨ur[i].1, hx 0 (by omega), hx 1 (by omega), (h.cells _ hm).at (hs _ hm)⟩
theorem OwnR.base {w : World} {base base' : Nat} {v : Value} {ur : List (Value × R)} (h : OwnR w base v ur) (hb : base' ≤ base) : OwnR w base' v ur := ⟨row_base h.own hb, fun p hp => row_base (h.cells p hp) hb, h.apart⟩
end Go.Proofs.Ytggmjiddadjilal
namespace Go.Proofs.Ytggmjiddadjilal
open Go.RowKit

/-- A reader at block r: over a code of at most 2000 bytes; at most B numbers have been picked. -/
def Rd (w : World) (r B : Nat) : Prop :=
  ∃ (a : Option Addr) (len cap p : Nat), p ≤ B ∧ len ≤ 2000 ∧ w.heap[r]? = some (.cells #[.slice a len cap, .int .i64 p] 89) ∧
    ∀ i, i < len → ∃ (b off : Nat) (z : Int), a = some ⟨b, off, none⟩ ∧ b < r ∧ w.cell? ⟨b, off + i, none⟩ = some (.int .u8 z) ∧ 0 ≤ z ∧ z ≤ 255

theorem Rd.lt {w : World} {r B : Nat} (h : Rd w r B) : r < w.heap.size := by
  obtain ⟨a, len, cap, p, _, _, hb, _⟩ := h
  exact (Array.getElem?_eq_some_iff.1 hb).1
theorem Rd.mono {w : World} {r B B' : Nat} (h : Rd w r B) (hB : B ≤ B') : Rd w r B' := by
  obtain ⟨a, len, cap, p, h1, h⟩ := h
  exact ⟨a, len, cap, p, by omega, h⟩
/-- A reader stays one where its own block and all older ones stay. -/
theorem Rd.kept {w w' : World} {r B : Nat} (h : Rd w r B) (hb : Below w.heap.size w w') : Rd w' r B := by
  have hlt := h.lt
  obtain ⟨a, len, cap, p, h1, h2, hk, hc⟩ := h
  refine ⟨a, len, cap, p, h1, h2, (hb.block r hlt).trans hk, fun i hi => ?_⟩
  obtain ⟨b, off, z, e, l, c, z0, z1⟩ := hc i hi
  exact ⟨b, off, z, e, l, (hb.cell (p := ⟨b, off + i, none⟩) (Nat.lt_trans l hlt)).trans c, z0, z1⟩
/-- .. where its own block and all ahead of it stay. -/
theorem Rd.keep {w w' : World} {r B : Nat} (h : Rd w r B) (hk : ∀ k, k ≤ r → w'.heap[k]? = w.heap[k]?) : Rd w' r B := by
  obtain ⟨a, len, cap, p, h1, h2, hb, hc⟩ := h
  refine ⟨a, len, cap, p, h1, h2, (hk r (Nat.le_refl _)).trans hb, fun i hi => ?_⟩
  obtain ⟨b, off, z, e, l, c, z0, z1⟩ := hc i hi
  exact ⟨b, off, z, e, l, (World.cell?_of_block (w := w) (a := ⟨b, off + i, none⟩) (hk b (Nat.le_of_lt l))).trans c, z0, z1⟩
theorem Rd.alloc {w : World} {r B : Nat} (h : Rd w r B) (o : Obj) : Rd (w.alloc o) r B := h.kept (k_alloc (Below.refl _ _) _)
theorem Rd.set {w : World} {r B : Nat} (h : Rd w r B) {p : Addr} (hp : r < p.block) (u : Value) : Rd (w.setCell p u) r B := h.keep (fun _ hk => Below.heap_setCell _ _ _ _ (by omega))
theorem Rd.drew {w : World} {r B : Nat} (h : Rd w r B) : Rd w.drew r B := h.kept (k_drew (Below.refl _ _))

/-- within 0 .. n - 1, where there is such a number -/
def InR (n k : Int) : Prop := 1 ≤ n → 0 ≤ k ∧ k < n

theorem i64_xor_nonneg (a b : Int) (h1 : 0 ≤ a) (h2 : a < 4611686018427387904) (h3 : 0 ≤ b) (h4 : b < 4611686018427387904) : 0 ≤ bits .xor .i64 a b := by
  obtain ⟨A, rfl⟩ := Int.eq_ofNat_of_zero_le h1
  obtain ⟨B, rfl⟩ := Int.eq_ofNat_of_zero_le h3
  have hx : A ^^^ B < 2 ^ 62 := Nat.xor_lt_two_pow (by omega) (by omega)
  have e : bits .xor .i64 (A : Int) (B : Int) = IntKind.i64.wrap ((BitVec.ofInt 64 (A : Int) ^^^ BitVec.ofInt 64 (B : Int)).toNat : Int) := rfl
  rw [e, BitVec.toNat_xor, ofInt_u64 A (by omega), ofInt_u64 B (by omega)]
  simp [IntKind.wrap, IntKind.bits, IntKind.signed]
  omega

theorem wrap64_in {x : Int} (h1 : 0 ≤ x) (h2 : x < 4611686018427387904) : wrap64 x = x := by unfold wrap64; omega
theorem pick_math (n z y : Int) (p len : Nat) (hn : 1 ≤ n) (hp : p ≤ 1000000) (z0 : 0 ≤ z) (z1 : z ≤ 255) (y0 : 0 ≤ y) (y1 : y ≤ 255) :
    InR n ((bits BinOp.xor IntKind.i64 (wrap64 (z * 131 + y * 1117 + (p : Int) * 29 + wrap64 (wrap64 ((p : Int) / (len : Int)) * 53)))
      (wrap64 ((wrap64 (z * 131 + y * 1117 + (p : Int) * 29 + wrap64 (wrap64 ((p : Int) / (len : Int)) * 53))).tdiv 64))).tmod n) := by
  have q0 : 0 ≤ (p : Int) / (len : Int) := Int.ediv_nonneg (by omega) (by omega)
  have q1 : (p : Int) / (len : Int) ≤ p := Int.ediv_le_self _ (by omega)
  generalize (p : Int) / (len : Int) = q at q0 q1 ⊢
  rw [wrap64_in q0 (by omega), wrap64_in (x := q * 53) (by omega) (by omega), wrap64_in (x := z * 131 + y * 1117 + (p : Int) * 29 + q * 53) (by omega) (by omega)]
  have X0 : 0 ≤ z * 131 + y * 1117 + (p : Int) * 29 + q * 53 := by omega
  have X1 : z * 131 + y * 1117 + (p : Int) * 29 + q * 53 < 4611686018427387904 := by omega
  generalize z * 131 + y * 1117 + (p : Int) * 29 + q * 53 = X at X0 X1 ⊢
  rw [Int.tdiv_eq_ediv_of_nonneg X0, wrap64_in (x := X / 64) (by omega) (by omega)]
  have hx := i64_xor_nonneg X (X / 64) X0 X1 (by omega) (by omega)
  generalize bits BinOp.xor IntKind.i64 X (X / 64) = Y at hx ⊢
  intro _
  rw [Int.tmod_eq_emod_of_nonneg hx]
  exact ⟨Int.emod_nonneg _ (by omega), Int.emod_lt_of_pos _ (by omega)⟩

theorem rd_next {w : World} {r B : Nat} {a : Option Addr} {len cap p : Nat} (hp : p ≤ B) (hl : len ≤ 2000) (hk : w.heap[r]? = some (.cells #[.slice a len cap, .int .i64 p] 89))
    (hc : ∀ i, i < len → ∃ (b off : Nat) (z : Int), a = some ⟨b, off, none⟩ ∧ b < r ∧ w.cell? ⟨b, off + i, none⟩ = some (.int .u8 z) ∧ 0 ≤ z ∧ z ≤ 255) :
    Rd (w.setCell ⟨r, 1, none⟩ (.int .i64 ((p : Int) + 1))) r (B + 1) ∧ Bk r w (w.setCell ⟨r, 1, none⟩ (.int .i64 ((p : Int) + 1))) := by
  have bk : Bk r w (w.setCell ⟨r, 1, none⟩ (.int .i64 ((p : Int) + 1))) := (Bk.refl r w).set (Or.inl rfl) _
  refine ⟨⟨a, len, cap, p + 1, by omega, hl, ?_, fun i hi => ?_⟩, bk⟩
  · rw [Joins.block_setCell hk]
    simp
  · obtain ⟨b, off, z, e, l, c, z0, z1⟩ := hc i hi
    exact ⟨b, off, z, e, l, (bk.cell (p := ⟨b, off + i, none⟩) (Nat.lt_trans l (Array.getElem?_eq_some_iff.1 hk).1) (Nat.ne_of_lt l)).trans c, z0, z1⟩
theorem Rd.draws {w : World} {r B : Nat} (h : Rd w r B) (n : Nat) : Rd (w.drewN n) r B := h.kept (k_drewN (Below.refl _ _) n)

set_option maxRecDepth 100000 in
set_option maxHeartbeats 1000000 in
theorem pick_any (r B : Nat) (n : Int) (w : World) (h : Rd w r B) (hB : B ≤ 1000000) :
    Calls Try.prog 38 #[.pointer (some ⟨r, 0, none⟩), .int .i64 n] w fun e w' => ∃ k : Int, e = .returned (.int .i64 k) ∧ InR n k ∧ Rd w' r (B + 1) ∧ Bk r w w' := by
  have hlt := h.lt
  obtain ⟨a, len, cap, p, hp, hl, hk, hc⟩ := h
  have c0 : w.cell? ⟨r, 0, none⟩ = some (.slice a len cap) := by simp [World.cell?, hk]
  have c1 : w.cell? ⟨r, 1, none⟩ = some (.int .i64 p) := by simp [World.cell?, hk]
  have f1 : w.frozen? ⟨r, 1, none⟩ = false := by simp [World.frozen?, hk]
  obtain ⟨N1, N2⟩ := rd_next hp hl hk hc
  have HN1 : Hid (Rd (w.setCell ⟨r, 1, none⟩ (.int .i64 ((p : Int) + 1))) r (B + 1)) := N1
  have HN2 : Hid (Bk r w (w.setCell ⟨r, 1, none⟩ (.int .i64 ((p : Int) + 1)))) := N2
  clear N1 N2 hk
  by_cases hn : n < 1
  · as_aux_lemma =>
      clear hc
      go_enter Try.func38, Try.ntmps38
      go_wp2
      go_ret
      exact ⟨0, rfl, fun h => absurd h (by omega), HN1.out, HN2.out⟩
  by_cases hz : len = 0
  · as_aux_lemma =>
      have hz' : ((len : Int) == 0) = true := beq_iff_eq.2 (by omega)
      clear hc hz
      go_enter Try.func38, Try.ntmps38
      go_wp2
      go_ret
      exact ⟨0, rfl, fun h => by omega, HN1.out, HN2.out⟩
  have hz' : ((len : Int) == 0) = false := beq_eq_false_iff_ne.2 (by omega)
  have hn1 : 1 ≤ n := by omega
  by_cases hpl : p < len
  · as_aux_lemma =>
      obtain ⟨b, off, z, rfl, hbr0, hcz, hz0, hz1⟩ := hc p hpl
      have hbr : b ≠ r := by omega
      have hbl : b < w.heap.size := by omega
      have c2 : ∀ v, (w.setCell ⟨r, 1, none⟩ v).cell? ⟨b, off + p, none⟩ = some (.int .u8 z) := fun v => ((Bk.refl r w).set (p := ⟨r, 1, none⟩) (Or.inl rfl) v).cell (p := ⟨b, off + p, none⟩) hbl hbr |>.trans hcz
      clear hc hcz hz hbl
      go_enter Try.func38, Try.ntmps38
      go_wp2
      go_ret
      exact ⟨_, rfl, fun _ => ⟨Int.emod_nonneg _ (by omega), Int.emod_lt_of_pos _ (by omega)⟩, HN1.out, HN2.out⟩
  · as_aux_lemma =>
      have hm1 : p % len < len := Nat.mod_lt _ (by omega)
      have hm2 : (p * 7 + 3) % len < len := Nat.mod_lt _ (by omega)
      obtain ⟨b, off, z, rfl, hbr0, hcz, hz0, hz1⟩ := hc _ hm1
      have hbr : b ≠ r := by omega
      have hbl : b < w.heap.size := by omega
      obtain ⟨b', off', y, e', hbr', hcy, hy0, hy1⟩ := hc _ hm2
      simp only [Option.some.injEq, Addr.mk.injEq] at e'
      obtain ⟨rfl, rfl, _⟩ := e'
      have c2 : ∀ v, (w.setCell ⟨r, 1, none⟩ v).cell? ⟨b, off + p % len, none⟩ = some (.int .u8 z) := fun v => ((Bk.refl r w).set (p := ⟨r, 1, none⟩) (Or.inl rfl) v).cell (p := ⟨b, off + p % len, none⟩) hbl hbr |>.trans hcz
      have c3 : ∀ v, (w.setCell ⟨r, 1, none⟩ v).cell? ⟨b, off + (p * 7 + 3) % len, none⟩ = some (.int .u8 y) := fun v => ((Bk.refl r w).set (p := ⟨r, 1, none⟩) (Or.inl rfl) v).cell (p := ⟨b, off + (p * 7 + 3) % len, none⟩) hbl hbr |>.trans hcy
      have i1 : 0 ≤ ((p : Int) * 7 + 3) % (len : Int) := Int.emod_nonneg _ (by omega)
      have i2 : ((p : Int) * 7 + 3) % (len : Int) < (len : Int) := Int.emod_lt_of_pos _ (by omega)
      have i3 : (((p : Int) * 7 + 3) % (len : Int)).toNat = (p * 7 + 3) % len := by
        have : ((p : Int) * 7 + 3) % (len : Int) = (((p * 7 + 3) % len : Nat) : Int) := by simp
        rw [this, Int.toNat_natCast]
      clear hc hcz hcy hz hbl hbr'
      go_enter Try.func38, Try.ntmps38
      go_wp2
      refine wp_region_quiet_lit (by kernel_rfl) (by kernel_rfl) ?_
      repeat (go_big_quiet_step (fail))
      refine wpQuiet_nil ?_
      intro _ hw'
      obtain ⟨nq, hw''⟩ := hw'
      subst hw''
      go_wp2
      go_ret
      refine ⟨_, rfl, ?_, HN1.out.draws _, HN2.out.drewN _⟩
      exact pick_math n z y p len hn1 (by omega) hz0 hz1 hy0 hy1

/-- What the walk is told of the code that came in: bytes in memory, or nil. -/
def IsCode (w : World) (a : Option Addr) (len cap : Nat) : Prop :=
  len ≤ cap ∧ cap ≤ maxLen ∧ ∀ i, i < len → ∃ (b off : Nat) (z : Int), a = some ⟨b, off, none⟩ ∧ b < w.heap.size ∧ w.cell? ⟨b, off + i, none⟩ = some (.int .u8 z) ∧ 0 ≤ z ∧ z ≤ 255

theorem isCode_nil (w : World) : IsCode w none 0 0 := ⟨Nat.le_refl _, Nat.zero_le _, fun _ hi => absurd hi (Nat.not_lt_zero _)⟩
theorem block_of_cell {w : World} {b o : Nat} {v : Value} (h : w.cell? ⟨b, o, none⟩ = some v) : b < w.heap.size := by
  rcases Nat.lt_or_ge b w.heap.size with h1 | h1
  · exact h1
  · simp [World.cell?, Array.getElem?_eq_none h1] at h
theorem getD_mem {zs : List Int} {i : Nat} (h : i < zs.length) : zs.getD i 0 ∈ zs := by
  have e : zs.getD i 0 = zs[i] := by simp [List.getD, h]
  rw [e]; exact List.getElem_mem _
theorem isCode_of {w : World} {x : Addr} {len cap : Nat} {zs : List Int} (hl : len ≤ cap) (hm : cap ≤ maxLen) (hz : zs.length = cap) (hcell : ∀ i, i < zs.length → w.cell? (x.add i) = some (.int .u8 (zs.getD i 0)))
    (hw : ∀ n ∈ zs, (Lit.int .u8 n).wf = true) : IsCode w (some x) len cap := by
  refine ⟨hl, hm, fun i hi => ?_⟩
  obtain ⟨b, off, rfl, hc⟩ := ints_at hcell (by omega)
  have hci := hc i (by omega)
  have hb := bounds_u8 (hw _ (getD_mem (zs := zs) (i := i) (by omega)))
  exact ⟨b, off, _, rfl, block_of_cell hci, hci, hb.1, hb.2⟩

theorem rd_open {w : World} {a : Option Addr} {len cap : Nat} (L : Nat) (hL : L ≤ len) (h2 : L ≤ 2000)
    (hc : ∀ i, i < len → ∃ (b off : Nat) (z : Int), a = some ⟨b, off, none⟩ ∧ b < w.heap.size ∧ w.cell? ⟨b, off + i, none⟩ = some (.int .u8 z) ∧ 0 ≤ z ∧ z ≤ 255) :
    Rd (w.alloc (.cells #[.slice a L cap, .int .i64 0] 89)) w.heap.size 0 := by
  refine ⟨a, L, cap, 0, Nat.le_refl _, h2, ?_, fun i hi => ?_⟩
  · show (w.heap.push _)[w.heap.size]? = _
    simp
  · obtain ⟨b, off, z, e, l, c, z0, z1⟩ := hc i (by omega)
    refine ⟨b, off, z, e, l, ?_, z0, z1⟩
    exact ((k_alloc (Below.refl w.heap.size w) _).cell (p := ⟨b, off + i, none⟩) l).trans c

set_option maxRecDepth 100000 in
set_option maxHeartbeats 400000 in
theorem open_any (a : Option Addr) (len cap : Nat) (w : World) (h : IsCode w a len cap) :
    Calls Try.prog 31 #[.slice a len cap] w fun e w' => e = .returned (.pointer (some ⟨w.heap.size, 0, none⟩)) ∧ Rd w' w.heap.size 0 ∧ Below w.heap.size w w' := by
  obtain ⟨h1, h2, hc⟩ := h
  unfold maxLen at h2
  by_cases hl : (2000 : Int) < (len : Int)
  · go_enter Try.func31, Try.ntmps31
    go_wp2
    go_ret
    exact ⟨rfl, rd_open 2000 (by omega) (by omega) hc, k_alloc (Below.refl _ _) _⟩
  · go_enter Try.func31, Try.ntmps31
    go_wp2
    go_ret
    exact ⟨rfl, rd_open len (by omega) (by omega) hc, k_alloc (Below.refl _ _) _⟩
end Go.Proofs.Ytggmjiddadjilal
namespace Go.Proofs.Ytggmjiddadjilal
open Go.RowKit

def brdOkB (a b : Int) : Bool := decide ((a = 0 ∨ a = 4) ∧ b = 0 ∨ (1 ≤ a ∧ a ≤ 3) ∧ 1 ≤ b ∧ b ≤ 3)
theorem brd_zero (b : Int) : brdOkB 0 b = (b == 0) := by rw [Bool.eq_iff_iff]; simp [brdOkB]
theorem brd_four (b : Int) : brdOkB 4 b = (b == 0) := by rw [Bool.eq_iff_iff]; simp [brdOkB]; 
theorem brd_seen {a : Int} (b : Int) (h1 : 1 ≤ a) (h2 : a ≤ 3) : brdOkB a b = inB b 1 3 := by rw [Bool.eq_iff_iff]; simp [brdOkB, inB]; omega
theorem brd_other {a : Int} (b : Int) (h0 : a ≠ 0) (h4 : a ≠ 4) (h : ¬ (1 ≤ a ∧ a ≤ 3)) : brdOkB a b = false := by simp [brdOkB]; omega
end Go.Proofs.Ytggmjiddadjilal
