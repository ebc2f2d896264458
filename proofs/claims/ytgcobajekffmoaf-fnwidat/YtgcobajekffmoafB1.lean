/-
  PROVED HERE: small laws on what a call leaves as it was, for the other texts of this claim. Also: what the drawing reader's l20Open and pick answer: a reader over the code; a number from 0 to n - 1; of what was in memory nothing is turned but the reader's own place. Also: small laws on blocks of cells in memory, for the other texts of this claim. Also: lists of numbers in memory, read (IntsAt) or in a block of their own (RowI), for the other texts of this claim.
-/
import Derived.Test.YtgcobajekffmoafRows
import Derived.WalkKit
import Derived.ProofKit
import Derived.Below
import Derived.Deep.Draws
import Derived.WalkLawsBesides
import Derived.WalkSpells
import Derived.Deep.QuietTactic
import Derived.BigQuiet
import Derived.Laws.BitsAllLaws
import Derived.RegionTactic
import Derived.Lib.SmallJoins
import Derived.OpenShut
import Derived.Laws.MakeOwn
import Derived.OwnWalk
import Derived.Laws.AppendOwn
namespace Go.Proofs.Ytgcobajekffmoaf
open Go.RowKit

theorem own : ownKnob Try.prog.godebug = none := by kernel_rfl
theorem laidOut : laidOutB Try.prog = true := by kernel_rfl
theorem bcell {W w1 : World} (hb : Below W.heap.size W w1) : (∀ b o, b < W.heap.size → w1.cell? ⟨b, o, none⟩ = W.cell? ⟨b, o, none⟩) ∧ (∀ b o, b < W.heap.size → w1.frozen? ⟨b, o, none⟩ = W.frozen? ⟨b, o, none⟩) :=
  ⟨fun b o h => hb.cell (p := ⟨b, o, none⟩) h, fun b o h => hb.frozen (p := ⟨b, o, none⟩) h⟩
theorem Hid.intro {p : Prop} (h : p) : Hid p := h
theorem k_alloc {a w : World} (h : Below a.heap.size a w) (o : Obj) : Below a.heap.size a (w.alloc o) := h.alloc h.size o
theorem k_drew {a w : World} (h : Below a.heap.size a w) : Below a.heap.size a w.drew := h.drew
theorem k_drewN {a w : World} (h : Below a.heap.size a w) (n : Nat) : Below a.heap.size a (w.drewN n) := ⟨h.os, h.tape, h.output, h.size, h.block⟩
theorem k_set {a w : World} (h : Below a.heap.size a w) {p : Addr} (hp : a.heap.size ≤ p.block) (u : Value) : Below a.heap.size a (w.setCell p u) := h.setCell hp u
theorem k_trans {a b c : World} (h : Below a.heap.size a b) (k : Below b.heap.size b c) : Below a.heap.size a c := h.trans (k.mono h.size)
end Go.Proofs.Ytgcobajekffmoaf
namespace Go.Proofs.Ytgcobajekffmoaf
open Go.RowKit

/-- All that was in memory is as it was, but for block r. -/
structure Bk (r : Nat) (w w' : World) : Prop where
  os : w'.os = w.os
  tape : w'.tape = w.tape
  output : w'.output = w.output
  size : w.heap.size ≤ w'.heap.size
  block : ∀ k, k < w.heap.size → k ≠ r → w'.heap[k]? = w.heap[k]?
theorem Bk.refl (r : Nat) (w : World) : Bk r w w := ⟨rfl, rfl, rfl, Nat.le_refl _, fun _ _ _ => rfl⟩
theorem Bk.trans {r : Nat} {a b c : World} (h : Bk r a b) (k : Bk r b c) : Bk r a c :=
  ⟨k.os.trans h.os, k.tape.trans h.tape, k.output.trans h.output, Nat.le_trans h.size k.size, fun i hi hr => (k.block i (Nat.lt_of_lt_of_le hi h.size) hr).trans (h.block i hi hr)⟩
theorem Bk.alloc {r : Nat} {a w : World} (h : Bk r a w) (o : Obj) : Bk r a (w.alloc o) :=
  h.trans ⟨rfl, rfl, rfl, by simp, fun k hk _ => Below.heap_alloc _ _ _ hk⟩
theorem Bk.drewN {r : Nat} {a w : World} (h : Bk r a w) (n : Nat) : Bk r a (w.drewN n) := ⟨h.os, h.tape, h.output, h.size, h.block⟩
theorem Bk.drew {r : Nat} {a w : World} (h : Bk r a w) : Bk r a w.drew := ⟨h.os, h.tape, h.output, h.size, h.block⟩
theorem Bk.set {r : Nat} {a w : World} (h : Bk r a w) {p : Addr} (hp : p.block = r ∨ a.heap.size ≤ p.block) (u : Value) : Bk r a (w.setCell p u) :=
  ⟨h.os, h.tape, h.output, by simpa [World.setCell] using h.size, fun k hk hr => (Below.heap_setCell _ _ _ _ (by omega)).trans (h.block k hk hr)⟩
theorem Bk.below {r : Nat} {w w' : World} (h : Bk r w w') {n : Nat} (hn : n ≤ w.heap.size) (hr : n ≤ r) : Below n w w' := ⟨h.os, h.tape, h.output, h.size, fun k hk => h.block k (by omega) (by omega)⟩
theorem Bk.of_below {r : Nat} {w w' : World} (h : Below w.heap.size w w') : Bk r w w' := ⟨h.os, h.tape, h.output, h.size, fun k hk _ => h.block k hk⟩
theorem Bk.cell {r : Nat} {w w' : World} (h : Bk r w w') {p : Addr} (hp : p.block < w.heap.size) (hr : p.block ≠ r) : w'.cell? p = w.cell? p := World.cell?_of_block (w := w) (h.block p.block hp hr)
theorem Bk.frozen {r : Nat} {w w' : World} (h : Bk r w w') {p : Addr} (hp : p.block < w.heap.size) (hr : p.block ≠ r) : w'.frozen? p = w.frozen? p := World.frozen?_of_block (w := w) (h.block p.block hp hr)
theorem Bk.cells {r : Nat} {w w' : World} (h : Bk r w w') : (∀ b o, b < w.heap.size → b ≠ r → w'.cell? ⟨b, o, none⟩ = w.cell? ⟨b, o, none⟩) ∧ (∀ b o, b < w.heap.size → b ≠ r → w'.frozen? ⟨b, o, none⟩ = w.frozen? ⟨b, o, none⟩) :=
  ⟨fun b o h1 h2 => h.cell (p := ⟨b, o, none⟩) h1 h2, fun b o h1 h2 => h.frozen (p := ⟨b, o, none⟩) h1 h2⟩

/-- A reader at block r: over a code of at most 2000 bytes; at most B numbers have been picked. -/
def Rd (w : World) (r B : Nat) : Prop :=
  ∃ (a : Option Addr) (len cap p : Nat), p ≤ B ∧ len ≤ 2000 ∧ w.heap[r]? = some (.cells #[.slice a len cap, .int .i64 p] 44) ∧
    ∀ i, i < len → ∃ (b off : Nat) (z : Int), a = some ⟨b, off, none⟩ ∧ b < r ∧ w.cell? ⟨b, off + i, none⟩ = some (.int .u8 z) ∧ 0 ≤ z ∧ z ≤ 255

theorem Rd.lt {w : World} {r B : Nat} (h : Rd w r B) : r < w.heap.size := by
  obtain ⟨a, len, cap, p, _, _, hb, _⟩ := h
  exact (Array.getElem?_eq_some_iff.1 hb).1
theorem Rd.mono {w : World} {r B B' : Nat} (h : Rd w r B) (hB : B ≤ B') : Rd w r B' := by
  obtain ⟨a, len, cap, p, h1, h⟩ := h
  exact ⟨a, len, cap, p, by omega, h⟩
/-- A reader stays one where its own block and all older ones stay. -/
theorem Rd.kept {w w' : World} {r B : Nat} (h : Rd w r B) (hb : Below w.heap.size w w') : Rd w' r B := by
  have hlt := h.lt
  obtain ⟨a, len, cap, p, h1, h2, hk, hc⟩ := h
  refine ⟨a, len, cap, p, h1, h2, (hb.block r hlt).trans hk, fun i hi => ?_⟩
  obtain ⟨b, off, z, e, l, c, z0, z1⟩ := hc i hi
  exact ⟨b, off, z, e, l, (hb.cell (p := ⟨b, off + i, none⟩) (Nat.lt_trans l hlt)).trans c, z0, z1⟩
/-- .. where its own block and all ahead of it stay. -/
theorem Rd.keep {w w' : World} {r B : Nat} (h : Rd w r B) (hk : ∀ k, k ≤ r → w'.heap[k]? = w.heap[k]?) : Rd w' r B := by
  obtain ⟨a, len, cap, p, h1, h2, hb, hc⟩ := h
  refine ⟨a, len, cap, p, h1, h2, (hk r (Nat.le_refl _)).trans hb, fun i hi => ?_⟩
  obtain ⟨b, off, z, e, l, c, z0, z1⟩ := hc i hi
  exact ⟨b, off, z, e, l, (World.cell?_of_block (w := w) (a := ⟨b, off + i, none⟩) (hk b (Nat.le_of_lt l))).trans c, z0, z1⟩
theorem Rd.alloc {w : World} {r B : Nat} (h : Rd w r B) (o : Obj) : Rd (w.alloc o) r B := h.kept (k_alloc (Below.refl _ _) _)
theorem Rd.set {w : World} {r B : Nat} (h : Rd w r B) {p : Addr} (hp : r < p.block) (u : Value) : Rd (w.setCell p u) r B := h.keep (fun _ hk => Below.heap_setCell _ _ _ _ (by omega))
theorem Rd.drew {w : World} {r B : Nat} (h : Rd w r B) : Rd w.drew r B := h.kept (k_drew (Below.refl _ _))

/-- within 0 .. n - 1, where there is such a number -/
def InR (n k : Int) : Prop := 1 ≤ n → 0 ≤ k ∧ k < n

theorem i64_xor_nonneg (a b : Int) (h1 : 0 ≤ a) (h2 : a < 4611686018427387904) (h3 : 0 ≤ b) (h4 : b < 4611686018427387904) : 0 ≤ bits .xor .i64 a b := by
  obtain ⟨A, rfl⟩ := Int.eq_ofNat_of_zero_le h1
  obtain ⟨B, rfl⟩ := Int.eq_ofNat_of_zero_le h3
  have hx : A ^^^ B < 2 ^ 62 := Nat.xor_lt_two_pow (by omega) (by omega)
  have e : bits .xor .i64 (A : Int) (B : Int) = IntKind.i64.wrap ((BitVec.ofInt 64 (A : Int) ^^^ BitVec.ofInt 64 (B : Int)).toNat : Int) := rfl
  rw [e, BitVec.toNat_xor, ofInt_u64 A (by omega), ofInt_u64 B (by omega)]
  simp [IntKind.wrap, IntKind.bits, IntKind.signed]
  omega

theorem wrap64_in {x : Int} (h1 : 0 ≤ x) (h2 : x < 4611686018427387904) : wrap64 x = x := by unfold wrap64; omega
theorem pick_math (n z y : Int) (p len : Nat) (hn : 1 ≤ n) (hp : p ≤ 1000000) (z0 : 0 ≤ z) (z1 : z ≤ 255) (y0 : 0 ≤ y) (y1 : y ≤ 255) :
    InR n ((bits BinOp.xor IntKind.i64 (wrap64 (z * 131 + y * 1117 + (p : Int) * 29 + wrap64 (wrap64 ((p : Int) / (len : Int)) * 53)))
      (wrap64 ((wrap64 (z * 131 + y * 1117 + (p : Int) * 29 + wrap64 (wrap64 ((p : Int) / (len : Int)) * 53))).tdiv 64))).tmod n) := by
  have q0 : 0 ≤ (p : Int) / (len : Int) := Int.ediv_nonneg (by omega) (by omega)
  have q1 : (p : Int) / (len : Int) ≤ p := Int.ediv_le_self _ (by omega)
  generalize (p : Int) / (len : Int) = q at q0 q1 ⊢
  rw [wrap64_in q0 (by omega), wrap64_in (x := q * 53) (by omega) (by omega), wrap64_in (x := z * 131 + y * 1117 + (p : Int) * 29 + q * 53) (by omega) (by omega)]
  have X0 : 0 ≤ z * 131 + y * 1117 + (p : Int) * 29 + q * 53 := by omega
  have X1 : z * 131 + y * 1117 + (p : Int) * 29 + q * 53 < 4611686018427387904 := by omega
  generalize z * 131 + y * 1117 + (p : Int) * 29 + q * 53 = X at X0 X1 ⊢
  rw [Int.tdiv_eq_ediv_of_nonneg X0, wrap64_in (x := X / 64) (by omega) (by omega)]
  have hx := i64_xor_nonneg X (X / 64) X0 X1 (by omega) (by omega)
  generalize bits BinOp.xor IntKind.i64 X (X / 64) = Y at hx ⊢
  intro _
  rw [Int.tmod_eq_emod_of_nonneg hx]
  exact ⟨Int.emod_nonneg _ (by omega), Int.emod_lt_of_pos _ (by omega)⟩

theorem rd_next {w : World} {r B : Nat} {a : Option Addr} {len cap p : Nat} (hp : p ≤ B) (hl : len ≤ 2000) (hk : w.heap[r]? = some (.cells #[.slice a len cap, .int .i64 p] 44))
    (hc : ∀ i, i < len → ∃ (b off : Nat) (z : Int), a = some ⟨b, off, none⟩ ∧ b < r ∧ w.cell? ⟨b, off + i, none⟩ = some (.int .u8 z) ∧ 0 ≤ z ∧ z ≤ 255) :
    Rd (w.setCell ⟨r, 1, none⟩ (.int .i64 ((p : Int) + 1))) r (B + 1) ∧ Bk r w (w.setCell ⟨r, 1, none⟩ (.int .i64 ((p : Int) + 1))) := by
  have bk : Bk r w (w.setCell ⟨r, 1, none⟩ (.int .i64 ((p : Int) + 1))) := (Bk.refl r w).set (Or.inl rfl) _
  refine ⟨⟨a, len, cap, p + 1, by omega, hl, ?_, fun i hi => ?_⟩, bk⟩
  · rw [Joins.block_setCell hk]
    simp
  · obtain ⟨b, off, z, e, l, c, z0, z1⟩ := hc i hi
    exact ⟨b, off, z, e, l, (bk.cell (p := ⟨b, off + i, none⟩) (Nat.lt_trans l (Array.getElem?_eq_some_iff.1 hk).1) (Nat.ne_of_lt l)).trans c, z0, z1⟩
theorem Rd.draws {w : World} {r B : Nat} (h : Rd w r B) (n : Nat) : Rd (w.drewN n) r B := h.kept (k_drewN (Below.refl _ _) n)

set_option maxRecDepth 100000 in
set_option maxHeartbeats 1000000 in
theorem pick_any (r B : Nat) (n : Int) (w : World) (h : Rd w r B) (hB : B ≤ 1000000) :
    Calls Try.prog 16 #[.pointer (some ⟨r, 0, none⟩), .int .i64 n] w fun e w' => ∃ k : Int, e = .returned (.int .i64 k) ∧ InR n k ∧ Rd w' r (B + 1) ∧ Bk r w w' := by
  have hlt := h.lt
  obtain ⟨a, len, cap, p, hp, hl, hk, hc⟩ := h
  have c0 : w.cell? ⟨r, 0, none⟩ = some (.slice a len cap) := by simp [World.cell?, hk]
  have c1 : w.cell? ⟨r, 1, none⟩ = some (.int .i64 p) := by simp [World.cell?, hk]
  have f1 : w.frozen? ⟨r, 1, none⟩ = false := by simp [World.frozen?, hk]
  obtain ⟨N1, N2⟩ := rd_next hp hl hk hc
  have HN1 : Hid (Rd (w.setCell ⟨r, 1, none⟩ (.int .i64 ((p : Int) + 1))) r (B + 1)) := N1
  have HN2 : Hid (Bk r w (w.setCell ⟨r, 1, none⟩ (.int .i64 ((p : Int) + 1)))) := N2
  clear N1 N2 hk
  by_cases hn : n < 1
  · as_aux_lemma =>
      clear hc
      go_enter Try.func16, Try.ntmps16
      go_wp2
      go_ret
      exact ⟨0, rfl, fun h => absurd h (by omega), HN1.out, HN2.out⟩
  by_cases hz : len = 0
  · as_aux_lemma =>
      have hz' : ((len : Int) == 0) = true := beq_iff_eq.2 (by omega)
      clear hc hz
      go_enter Try.func16, Try.ntmps16
      go_wp2
      go_ret
      exact ⟨0, rfl, fun h => by omega, HN1.out, HN2.out⟩
  have hz' : ((len : Int) == 0) = false := beq_eq_false_iff_ne.2 (by omega)
  have hn1 : 1 ≤ n := by omega
  by_cases hpl : p < len
  · as_aux_lemma =>
      obtain ⟨b, off, z, rfl, hbr0, hcz, hz0, hz1⟩ := hc p hpl
      have hbr : b ≠ r := by omega
      have hbl : b < w.heap.size := by omega
      have c2 : ∀ v, (w.setCell ⟨r, 1, none⟩ v).cell? ⟨b, off + p, none⟩ = some (.int .u8 z) := fun v => ((Bk.refl r w).set (p := ⟨r, 1, none⟩) (Or.inl rfl) v).cell (p := ⟨b, off + p, none⟩) hbl hbr |>.trans hcz
      clear hc hcz hz hbl
      go_enter Try.func16, Try.ntmps16
      go_wp2
      go_ret
      exact ⟨_, rfl, fun _ => ⟨Int.emod_nonneg _ (by omega), Int.emod_lt_of_pos _ (by omega)⟩, HN1.out, HN2.out⟩
  · as_aux_lemma =>
      have hm1 : p % len < len := Nat.mod_lt _ (by omega)
      have hm2 : (p * 7 + 3) % len < len := Nat.mod_lt _ (by omega)
      obtain ⟨b, off, z, rfl, hbr0, hcz, hz0, hz1⟩ := hc _ hm1
      have hbr : b ≠ r := by omega
      have hbl : b < w.heap.size := by omega
      obtain ⟨b', off', y, e', hbr', hcy, hy0, hy1⟩ := hc _ hm2
      simp only [Option.some.injEq, Addr.mk.injEq] at e'
      obtain ⟨rfl, rfl, _⟩ := e'
      have c2 : ∀ v, (w.setCell ⟨r, 1, none⟩ v).cell? ⟨b, off + p % len, none⟩ = some (.int .u8 z) := fun v => ((Bk.refl r w).set (p := ⟨r, 1, none⟩) (Or.inl rfl) v).cell (p := ⟨b, off + p % len, none⟩) hbl hbr |>.trans hcz
      have c3 : ∀ v, (w.setCell ⟨r, 1, none⟩ v).cell? ⟨b, off + (p * 7 + 3) % len, none⟩ = some (.int .u8 y) := fun v => ((Bk.refl r w).set (p := ⟨r, 1, none⟩) (Or.inl rfl) v).cell (p := ⟨b, off + (p * 7 + 3) % len, none⟩) hbl hbr |>.trans hcy
      have i1 : 0 ≤ ((p : Int) * 7 + 3) % (len : Int) := Int.emod_nonneg _ (by omega)
      have i2 : ((p : Int) * 7 + 3) % (len : Int) < (len : Int) := Int.emod_lt_of_pos _ (by omega)
      have i3 : (((p : Int) * 7 + 3) % (len : Int)).toNat = (p * 7 + 3) % len := by
        have : ((p : Int) * 7 + 3) % (len : Int) = (((p * 7 + 3) % len : Nat) : Int) := by simp
        rw [this, Int.toNat_natCast]
      clear hc hcz hcy hz hbl hbr'
      go_enter Try.func16, Try.ntmps16
      go_wp2
      refine wp_region_quiet_lit (by kernel_rfl) (by kernel_rfl) ?_
      repeat (go_big_quiet_step (fail))
      refine wpQuiet_nil ?_
      intro _ hw'
      obtain ⟨nq, hw''⟩ := hw'
      subst hw''
      go_wp2
      go_ret
      refine ⟨_, rfl, ?_, HN1.out.draws _, HN2.out.drewN _⟩
      exact pick_math n z y p len hn1 (by omega) hz0 hz1 hy0 hy1

/-- What the walk is told of the code that came in: bytes in memory, or nil. -/
def IsCode (w : World) (a : Option Addr) (len cap : Nat) : Prop :=
  len ≤ cap ∧ cap ≤ maxLen ∧ ∀ i, i < len → ∃ (b off : Nat) (z : Int), a = some ⟨b, off, none⟩ ∧ b < w.heap.size ∧ w.cell? ⟨b, off + i, none⟩ = some (.int .u8 z) ∧ 0 ≤ z ∧ z ≤ 255

theorem isCode_nil (w : World) : IsCode w none 0 0 := ⟨Nat.le_refl _, Nat.zero_le _, fun _ hi => absurd hi (Nat.not_lt_zero _)⟩
theorem block_of_cell {w : World} {b o : Nat} {v : Value} (h : w.cell? ⟨b, o, none⟩ = some v) : b < w.heap.size := by
  rcases Nat.lt_or_ge b w.heap.size with h1 | h1
  · exact h1
  · simp [World.cell?, Array.getElem?_eq_none h1] at h
theorem getD_mem {zs : List Int} {i : Nat} (h : i < zs.length) : zs.getD i 0 ∈ zs := by
  have e : zs.getD i 0 = zs[i] := by simp [List.getD, h]
  rw [e]; exact List.getElem_mem _
theorem isCode_of {w : World} {x : Addr} {len cap : Nat} {zs : List Int} (hl : len ≤ cap) (hm : cap ≤ maxLen) (hz : zs.length = cap) (hcell : ∀ i, i < zs.length → w.cell? (x.add i) = some (.int .u8 (zs.getD i 0)))
    (hw : ∀ n ∈ zs, (Lit.int .u8 n).wf = true) : IsCode w (some x) len cap := by
  refine ⟨hl, hm, fun i hi => ?_⟩
  obtain ⟨b, off, rfl, hc⟩ := ints_at hcell (by omega)
  have hci := hc i (by omega)
  have hb := bounds_u8 (hw _ (getD_mem (zs := zs) (i := i) (by omega)))
  exact ⟨b, off, _, rfl, block_of_cell hci, hci, hb.1, hb.2⟩

theorem rd_open {w : World} {a : Option Addr} {len cap : Nat} (L : Nat) (hL : L ≤ len) (h2 : L ≤ 2000)
    (hc : ∀ i, i < len → ∃ (b off : Nat) (z : Int), a = some ⟨b, off, none⟩ ∧ b < w.heap.size ∧ w.cell? ⟨b, off + i, none⟩ = some (.int .u8 z) ∧ 0 ≤ z ∧ z ≤ 255) :
    Rd (w.alloc (.cells #[.slice a L cap, .int .i64 0] 44)) w.heap.size 0 := by
  refine ⟨a, L, cap, 0, Nat.le_refl _, h2, ?_, fun i hi => ?_⟩
  · show (w.heap.push _)[w.heap.size]? = _
    simp
  · obtain ⟨b, off, z, e, l, c, z0, z1⟩ := hc i (by omega)
    refine ⟨b, off, z, e, l, ?_, z0, z1⟩
    exact ((k_alloc (Below.refl w.heap.size w) _).cell (p := ⟨b, off + i, none⟩) l).trans c

set_option maxRecDepth 100000 in
set_option maxHeartbeats 400000 in
theorem open_any (a : Option Addr) (len cap : Nat) (w : World) (h : IsCode w a len cap) :
    Calls Try.prog 14 #[.slice a len cap] w fun e w' => e = .returned (.pointer (some ⟨w.heap.size, 0, none⟩)) ∧ Rd w' w.heap.size 0 ∧ Below w.heap.size w w' := by
  obtain ⟨h1, h2, hc⟩ := h
  unfold maxLen at h2
  by_cases hl : (2000 : Int) < (len : Int)
  · go_enter Try.func14, Try.ntmps14
    go_wp2
    go_ret
    exact ⟨rfl, rd_open 2000 (by omega) (by omega) hc, k_alloc (Below.refl _ _) _⟩
  · go_enter Try.func14, Try.ntmps14
    go_wp2
    go_ret
    exact ⟨rfl, rd_open len (by omega) (by omega) hc, k_alloc (Below.refl _ _) _⟩
end Go.Proofs.Ytgcobajekffmoaf
namespace Go.Proofs.Ytgcobajekffmoaf
open Go.RowKit

theorem sizeSet (w : World) (p : Addr) (v : Value) : (w.setCell p v).heap.size = w.heap.size := by simp [World.setCell]
theorem newestB (w : World) (q : Obj) : (w.alloc q).heap[w.heap.size]? = some q := by show (w.heap.push q)[w.heap.size]? = _; simp
theorem cellB {w : World} {g p : Nat} {arr : Array Value} {t : TypeId} (h : w.heap[g]? = some (.cells arr t)) : w.cell? ⟨g, p, none⟩ = arr[p]? := Joins.cell_of_block h p
theorem someB {w : World} {g p : Nat} {arr : Array Value} {t : TypeId} (h : w.heap[g]? = some (.cells arr t)) (hp : p < arr.size) : ∃ v, w.cell? ⟨g, p, none⟩ = some v := ⟨_, (cellB h).trans (Array.getElem?_eq_getElem hp)⟩
theorem freeB {w : World} {g p : Nat} {arr : Array Value} {t : TypeId} (h : w.heap[g]? = some (.cells arr t)) : w.frozen? ⟨g, p, none⟩ = false := Joins.unfrozen_of_block h p
theorem setB {w : World} {g p : Nat} {arr : Array Value} {t : TypeId} (h : w.heap[g]? = some (.cells arr t)) (v : Value) : (w.setCell ⟨g, p, none⟩ v).heap[g]? = some (.cells (arr.setIfInBounds p v) t) := Joins.block_setCell h v
theorem two_next {arr : Array Value} {n k : Nat} (hs : arr.size = n * 2) (hk : k < n) (x y : Value) :
    (∀ p, p < k * 2 → ((arr.setIfInBounds (k * 2) x).setIfInBounds (k * 2 + 1) y)[p]? = arr[p]?) ∧ ((arr.setIfInBounds (k * 2) x).setIfInBounds (k * 2 + 1) y)[k * 2]? = some x ∧ ((arr.setIfInBounds (k * 2) x).setIfInBounds (k * 2 + 1) y)[k * 2 + 1]? = some y := by
  have eq : ∀ (A : Array Value) (i : Nat) (v : Value), i < A.size → (A.setIfInBounds i v)[i]? = some v := fun A i v hi => by simp [hi]
  refine ⟨fun p hp => ?_, ?_, ?_⟩
  · rw [Array.getElem?_setIfInBounds_ne (by omega), Array.getElem?_setIfInBounds_ne (by omega)]
  · rw [Array.getElem?_setIfInBounds_ne (by omega)]
    exact eq _ _ _ (by omega)
  · exact eq _ _ _ (by rw [Array.size_setIfInBounds]; omega)
/-- what is left of n behind m: -1, if that is less than nothing -/
def leftOf (n : Int) (m : Nat) : Int := if (m : Int) ≤ n then n - m else -1
theorem leftOf_pos {n : Int} {m : Nat} (h : (m : Int) ≤ n) : leftOf n m = n - m := by rw [leftOf, if_pos h]
theorem leftOf_neg {n : Int} {m : Nat} (h : ¬ (m : Int) ≤ n) : leftOf n m = -1 := by rw [leftOf, if_neg h]
theorem retI64 {a b : Int} (h : a = b) : Ending.returned (.int .i64 a) = .returned (.int .i64 b) := by rw [h]
end Go.Proofs.Ytgcobajekffmoaf
namespace Go.Proofs.Ytgcobajekffmoaf
open Go.RowKit

/-- a list of numbers that can be read -/
def IntsAt (w : World) (v : Value) (l : List Int) : Prop :=
  ∃ (a : Option Addr) (cap : Nat), v = .slice a l.length cap ∧ l.length ≤ cap ∧ cap ≤ maxLen ∧ ∀ i, i < l.length → ∃ b off, a = some ⟨b, off, none⟩ ∧ b < w.heap.size ∧ w.cell? ⟨b, off + i, none⟩ = some (.int .i64 (l.getD i 0))
theorem IntsAt.form {w : World} {v : Value} {l : List Int} (h : IntsAt w v l) : ∃ a cap, v = .slice a l.length cap ∧ l.length ≤ 9223372036854775807 := by
  obtain ⟨a, cap, hv, h1, h2, _⟩ := h
  unfold maxLen at h2
  exact ⟨a, cap, hv, by omega⟩
theorem IntsAt.get {w : World} {v : Value} {l : List Int} (h : IntsAt w v l) {i : Nat} (hi : i < l.length) :
    ∃ b off cap, v = .slice (some ⟨b, off, none⟩) l.length cap ∧ l.length ≤ cap ∧ cap ≤ maxLen ∧ b < w.heap.size ∧ w.cell? ⟨b, off + i, none⟩ = some (.int .i64 (l.getD i 0)) := by
  obtain ⟨a, cap, hv, h1, h2, h3⟩ := h
  obtain ⟨b, off, rfl, h4, h5⟩ := h3 i hi
  exact ⟨b, off, cap, hv, h1, h2, h4, h5⟩
theorem IntsAt.kept {w w' : World} {v : Value} {l : List Int} (h : IntsAt w v l) (k : Below w.heap.size w w') : IntsAt w' v l := by
  obtain ⟨a, cap, hv, h1, h2, h3⟩ := h
  refine ⟨a, cap, hv, h1, h2, fun i hi => ?_⟩
  obtain ⟨b, off, h4, h5, h6⟩ := h3 i hi
  exact ⟨b, off, h4, Nat.lt_of_lt_of_le h5 k.size, (k.cell (p := ⟨b, off + i, none⟩) h5).trans h6⟩

/-- a list of numbers in a block of its own, at B or behind it, ahead of D -/
def RowI (w : World) (B D : Nat) (v : Value) (l : List Int) : Prop :=
  (v = .slice none 0 0 ∧ l = []) ∨ ∃ g cap cur, v = .slice (some ⟨g, 0, none⟩) l.length cap ∧ B ≤ g ∧ g < D ∧ w.heap[g]? = some (.cells cur 3 (0, 0)) ∧ l.length ≤ cap ∧ cap ≤ maxLen ∧ cur.size = cap ∧ ∀ i, i < l.length → cur[i]? = some (.int .i64 (l.getD i 0))
theorem RowI.of_owns {w : World} {B : Nat} {v : Value} {l : List Int} (h : w.ownsRow B 3 1 v l.length (l.map (Value.int .i64))) : RowI w B w.heap.size v l := by
  rcases h.2 with ⟨hv, h0⟩ | ⟨g, cap, cur, hv, hb, hg, h1, h2, h3, h4⟩
  · exact .inl ⟨hv, List.eq_nil_of_length_eq_zero h0⟩
  · refine .inr ⟨g, cap, cur, hv, hb, (Array.getElem?_eq_some_iff.1 hg).1, hg, h1, h2, by omega, fun i hi => ?_⟩
    have : cur.toList[i]? = (l.map (Value.int .i64))[i]? := by rw [← h4, List.getElem?_take_of_lt (by omega)]
    rw [← Array.getElem?_toList, this]
    simp [List.getD, hi]
theorem RowI.owns {w : World} {B D : Nat} {v : Value} {l : List Int} (h : RowI w B D v l) : w.ownsRow B 3 1 v l.length (l.map (Value.int .i64)) := by
  refine ⟨by simp, ?_⟩
  rcases h with ⟨hv, rfl⟩ | ⟨g, cap, cur, hv, hb, hd, hg, h1, h2, h3, h4⟩
  · exact .inl ⟨hv, rfl⟩
  · refine .inr ⟨g, cap, cur, hv, hb, hg, h1, h2, by omega, ?_⟩
    apply List.ext_getElem?
    intro i
    by_cases hi : i < l.length
    · rw [List.getElem?_take_of_lt (by omega), Array.getElem?_toList, h4 i hi]
      simp [List.getD, hi]
    · rw [List.getElem?_eq_none (by simp; omega), List.getElem?_eq_none (by simp; omega)]
theorem RowI.at {w : World} {B D : Nat} {v : Value} {l : List Int} (h : RowI w B D v l) : IntsAt w v l := by
  rcases h with ⟨rfl, rfl⟩ | ⟨g, cap, cur, hv, hb, hd, hg, h1, h2, h3, h4⟩
  · exact ⟨none, 0, rfl, Nat.le_refl _, Nat.zero_le _, fun i hi => absurd hi (Nat.not_lt_zero _)⟩
  · exact ⟨_, cap, hv, h1, h2, fun i hi => ⟨g, 0, rfl, (Array.getElem?_eq_some_iff.1 hg).1, by rw [Nat.zero_add]; exact (cellB hg).trans (h4 i hi)⟩⟩
theorem RowI.kept {w w' : World} {B D : Nat} {v : Value} {l : List Int} (h : RowI w B D v l) (k : ∀ j, j < w.heap.size → B ≤ j → j < D → w'.heap[j]? = w.heap[j]?) : RowI w' B D v l := by
  rcases h with h | ⟨g, cap, cur, hv, hb, hd, hg, r⟩
  · exact .inl h
  · exact .inr ⟨g, cap, cur, hv, hb, hd, (k g (Array.getElem?_eq_some_iff.1 hg).1 hb hd).trans hg, r⟩
theorem RowI.below {w w' : World} {B D C : Nat} {v : Value} {l : List Int} (h : RowI w B D v l) (k : Below C w w') (hC : D ≤ C) : RowI w' B D v l :=
  h.kept (fun j _ _ h2 => k.block j (Nat.lt_of_lt_of_le h2 hC))
theorem RowI.base {w : World} {B B' D D' : Nat} {v : Value} {l : List Int} (h : RowI w B D v l) (hB : B' ≤ B) (hD : D ≤ D') : RowI w B' D' v l := by
  rcases h with h | ⟨g, cap, cur, hv, hb, hd, r⟩
  · exact .inl h
  · exact .inr ⟨g, cap, cur, hv, Nat.le_trans hB hb, Nat.lt_of_lt_of_le hd hD, r⟩
theorem RowI.form {w : World} {B D : Nat} {v : Value} {l : List Int} (h : RowI w B D v l) : ∃ a cap, v = .slice a l.length cap := by
  rcases h with ⟨rfl, rfl⟩ | ⟨g, cap, cur, hv, _⟩
  · exact ⟨none, 0, rfl⟩
  · exact ⟨_, _, hv⟩
theorem RowI.get {w : World} {B D : Nat} {v : Value} {l : List Int} (h : RowI w B D v l) {i : Nat} (hi : i < l.length) :
    ∃ g cap, v = .slice (some ⟨g, 0, none⟩) l.length cap ∧ B ≤ g ∧ g < D ∧ g < w.heap.size ∧ l.length ≤ cap ∧ cap ≤ maxLen ∧ w.cell? ⟨g, i, none⟩ = some (.int .i64 (l.getD i 0)) ∧ w.frozen? ⟨g, i, none⟩ = false := by
  rcases h with ⟨_, rfl⟩ | ⟨g, cap, cur, hv, hb, hd, hg, h1, h2, h3, h4⟩
  · cases hi
  · exact ⟨g, cap, hv, hb, hd, (Array.getElem?_eq_some_iff.1 hg).1, h1, h2, (cellB hg).trans (h4 i hi), freeB hg⟩
theorem RowI.set {w : World} {B D g cap n : Nat} {l : List Int} (h : RowI w B D (.slice (some ⟨g, 0, none⟩) n cap) l) {i : Nat} (hi : i < l.length) (x : Int) : RowI (w.setCell ⟨g, i, none⟩ (.int .i64 x)) B D (.slice (some ⟨g, 0, none⟩) n cap) (l.set i x) := by
  rcases h with ⟨hv, _⟩ | ⟨g', cap', cur, hv, hb, hd, hg, h1, h2, h3, h4⟩
  · simp at hv
  · simp only [Value.slice.injEq, Option.some.injEq, Addr.mk.injEq, and_true] at hv
    obtain ⟨rfl, rfl, rfl⟩ := hv
    refine .inr ⟨g, cap, cur.setIfInBounds i (.int .i64 x), by simp, hb, hd, setB hg _, by simpa using h1, h2, by simpa using h3, fun j hj => ?_⟩
    rw [List.length_set] at hj
    by_cases e : i = j
    · subst e
      simp [List.getD, hj, show i < cur.size by omega]
    · rw [Array.getElem?_setIfInBounds_ne e, h4 j hj]
      simp [List.getD, e]
/-- what lies ahead of B, or at D and behind it, is as it was -/
structure Out (B D : Nat) (w w' : World) : Prop where
  below : Below B w w'
  block : ∀ k, D ≤ k → k < w.heap.size → w'.heap[k]? = w.heap[k]?
theorem Out.refl (B D : Nat) (w : World) : Out B D w w := ⟨Below.refl _ _, fun _ _ _ => rfl⟩
theorem Out.set {B D : Nat} {a w : World} (h : Out B D a w) {p : Addr} (h1 : B ≤ p.block) (h2 : p.block < D) (v : Value) : Out B D a (w.setCell p v) :=
  ⟨h.below.setCell h1 v, fun k h3 h4 => (Below.heap_setCell _ _ _ _ (by omega)).trans (h.block k h3 h4)⟩
theorem Out.drewN {B D : Nat} {a w : World} (h : Out B D a w) (n : Nat) : Out B D a (w.drewN n) := ⟨⟨h.below.os, h.below.tape, h.below.output, h.below.size, h.below.block⟩, h.block⟩
theorem RowI.out {w w' : World} {B D B' D' : Nat} {v : Value} {l : List Int} (h : RowI w B D v l) (k : Out B' D' w w') (hd : D ≤ B' ∨ D' ≤ B) : RowI w' B D v l :=
  h.kept (fun j h0 h1 h2 => by rcases hd with hd | hd; exact k.below.block j (by omega); exact k.block j (by omega) h0)
end Go.Proofs.Ytgcobajekffmoaf
