/-
  PROVED HERE: what the drawing reader's l20Open and pick answer: a reader over the code; a number from 0 to n - 1; of what was in memory nothing is turned but the reader's own place.
-/
import Derived.Test.YtggmjiddadjilabDoorBkT
import Derived.WalkLawsBesides
import Derived.WalkSpells
import Derived.Deep.QuietTactic
import Derived.BigQuiet
import Derived.Laws.BitsAllLaws
import Derived.RegionTactic
import Derived.Lib.SmallJoins
import Derived.OpenShut
namespace Go.Proofs.YtggmjiddadjilabDoor
open Go.RowKit

/-- A reader at block r: over a code of at most 2000 bytes; at most B numbers have been picked. -/
def Rd (w : World) (r B : Nat) : Prop :=
  ∃ (a : Option Addr) (len cap p : Nat), p ≤ B ∧ len ≤ 2000 ∧ w.heap[r]? = some (.cells #[.slice a len cap, .int .i64 p] 58) ∧
    ∀ i, i < len → ∃ (b off : Nat) (z : Int), a = some ⟨b, off, none⟩ ∧ b < r ∧ w.cell? ⟨b, off + i, none⟩ = some (.int .u8 z) ∧ 0 ≤ z ∧ z ≤ 255

theorem Rd.lt {w : World} {r B : Nat} (h : Rd w r B) : r < w.heap.size := by
  obtain ⟨a, len, cap, p, _, _, hb, _⟩ := h
  exact (Array.getElem?_eq_some_iff.1 hb).1
theorem Rd.mono {w : World} {r B B' : Nat} (h : Rd w r B) (hB : B ≤ B') : Rd w r B' := by
  obtain ⟨a, len, cap, p, h1, h⟩ := h
  exact ⟨a, len, cap, p, by omega, h⟩
/-- A reader stays one where its own block and all older ones stay. -/
theorem Rd.kept {w w' : World} {r B : Nat} (h : Rd w r B) (hb : Below w.heap.size w w') : Rd w' r B := by
  have hlt := h.lt
  obtain ⟨a, len, cap, p, h1, h2, hk, hc⟩ := h
  refine ⟨a, len, cap, p, h1, h2, (hb.block r hlt).trans hk, fun i hi => ?_⟩
  obtain ⟨b, off, z, e, l, c, z0, z1⟩ := hc i hi
  exact ⟨b, off, z, e, l, (hb.cell (p := ⟨b, off + i, none⟩) (Nat.lt_trans l hlt)).trans c, z0, z1⟩
/-- .. where its own block and all ahead of it stay. -/
theorem Rd.keep {w w' : World} {r B : Nat} (h : Rd w r B) (hk : ∀ k, k ≤ r → w'.heap[k]? = w.heap[k]?) : Rd w' r B := by
  obtain ⟨a, len, cap, p, h1, h2, hb, hc⟩ := h
  refine ⟨a, len, cap, p, h1, h2, (hk r (Nat.le_refl _)).trans hb, fun i hi => ?_⟩
  obtain ⟨b, off, z, e, l, c, z0, z1⟩ := hc i hi
  exact ⟨b, off, z, e, l, (World.cell?_of_block (w := w) (a := ⟨b, off + i, none⟩) (hk b (Nat.le_of_lt l))).trans c, z0, z1⟩
theorem Rd.alloc {w : World} {r B : Nat} (h : Rd w r B) (o : Obj) : Rd (w.alloc o) r B := h.kept (k_alloc (Below.refl _ _) _)
theorem Rd.set {w : World} {r B : Nat} (h : Rd w r B) {p : Addr} (hp : r < p.block) (u : Value) : Rd (w.setCell p u) r B := h.keep (fun _ hk => Below.heap_setCell _ _ _ _ (by omega))
theorem Rd.drew {w : World} {r B : Nat} (h : Rd w r B) : Rd w.drew r B := h.kept (k_drew (Below.refl _ _))

/-- within 0 .. n - 1, where there is such a number -/
def InR (n k : Int) : Prop := 1 ≤ n → 0 ≤ k ∧ k < n

theorem i64_xor_nonneg (a b : Int) (h1 : 0 ≤ a) (h2 : a < 4611686018427387904) (h3 : 0 ≤ b) (h4 : b < 4611686018427387904) : 0 ≤ bits .xor .i64 a b := by
  obtain ⟨A, rfl⟩ := Int.eq_ofNat_of_zero_le h1
  obtain ⟨B, rfl⟩ := Int.eq_ofNat_of_zero_le h3
  have hx : A ^^^ B < 2 ^ 62 := Nat.xor_lt_two_pow (by omega) (by omega)
  have e : bits .xor .i64 (A : Int) (B : Int) = IntKind.i64.wrap ((BitVec.ofInt 64 (A : Int) ^^^ BitVec.ofInt 64 (B : Int)).toNat : Int) := rfl
  rw [e, BitVec.toNat_xor, ofInt_u64 A (by omega), ofInt_u64 B (by omega)]
  simp [IntKind.wrap, IntKind.bits, IntKind.signed]
  omega

theorem wrap64_in {x : Int} (h1 : 0 ≤ x) (h2 : x < 4611686018427387904) : wrap64 x = x := by unfold wrap64; omega
theorem pick_math (n z y : Int) (p len : Nat) (hn : 1 ≤ n) (hp : p ≤ 1000000) (z0 : 0 ≤ z) (z1 : z ≤ 255) (y0 : 0 ≤ y) (y1 : y ≤ 255) :
    InR n ((bits BinOp.xor IntKind.i64 (wrap64 (z * 131 + y * 1117 + (p : Int) * 29 + wrap64 (wrap64 ((p : Int) / (len : Int)) * 53)))
      (wrap64 ((wrap64 (z * 131 + y * 1117 + (p : Int) * 29 + wrap64 (wrap64 ((p : Int) / (len : Int)) * 53))).tdiv 64))).tmod n) := by
  have q0 : 0 ≤ (p : Int) / (len : Int) := Int.ediv_nonneg (by omega) (by omega)
  have q1 : (p : Int) / (len : Int) ≤ p := Int.ediv_le_self _ (by omega)
  generalize (p : Int) / (len : Int) = q at q0 q1 ⊢
  rw [wrap64_in q0 (by omega), wrap64_in (x := q * 53) (by omega) (by omega), wrap64_in (x := z * 131 + y * 1117 + (p : Int) * 29 + q * 53) (by omega) (by omega)]
  have X0 : 0 ≤ z * 131 + y * 1117 + (p : Int) * 29 + q * 53 := by omega
  have X1 : z * 131 + y * 1117 + (p : Int) * 29 + q * 53 < 4611686018427387904 := by omega
  generalize z * 131 + y * 1117 + (p : Int) * 29 + q * 53 = X at X0 X1 ⊢
  rw [Int.tdiv_eq_ediv_of_nonneg X0, wrap64_in (x := X / 64) (by omega) (by omega)]
  have hx := i64_xor_nonneg X (X / 64) X0 X1 (by omega) (by omega)
  generalize bits BinOp.xor IntKind.i64 X (X / 64) = Y at hx ⊢
  intro _
  rw [Int.tmod_eq_emod_of_nonneg hx]
  exact ⟨Int.emod_nonneg _ (by omega), Int.emod_lt_of_pos _ (by omega)⟩

theorem rd_next {w : World} {r B : Nat} {a : Option Addr} {len cap p : Nat} (hp : p ≤ B) (hl : len ≤ 2000) (hk : w.heap[r]? = some (.cells #[.slice a len cap, .int .i64 p] 58))
    (hc : ∀ i, i < len → ∃ (b off : Nat) (z : Int), a = some ⟨b, off, none⟩ ∧ b < r ∧ w.cell? ⟨b, off + i, none⟩ = some (.int .u8 z) ∧ 0 ≤ z ∧ z ≤ 255) :
    Rd (w.setCell ⟨r, 1, none⟩ (.int .i64 ((p : Int) + 1))) r (B + 1) ∧ Bk r w (w.setCell ⟨r, 1, none⟩ (.int .i64 ((p : Int) + 1))) := by
  have bk : Bk r w (w.setCell ⟨r, 1, none⟩ (.int .i64 ((p : Int) + 1))) := (Bk.refl r w).set (Or.inl rfl) _
  refine ⟨⟨a, len, cap, p + 1, by omega, hl, ?_, fun i hi => ?_⟩, bk⟩
  · rw [Joins.block_setCell hk]
    simp
  · obtain ⟨b, off, z, e, l, c, z0, z1⟩ := hc i hi
    exact ⟨b, off, z, e, l, (bk.cell (p := ⟨b, off + i, none⟩) (Nat.lt_trans l (Array.getElem?_eq_some_iff.1 hk).1) (Nat.ne_of_lt l)).trans c, z0, z1⟩
theorem Rd.draws {w : World} {r B : Nat} (h : Rd w r B) (n : Nat) : Rd (w.drewN n) r B := h.kept (k_drewN (Below.refl _ _) n)

set_option maxRecDepth 100000 in
set_option maxHeartbeats 1000000 in
theorem pick_any (r B : Nat) (n : Int) (w : World) (h : Rd w r B) (hB : B ≤ 1000000) :
    Calls Tryd.prog 22 #[.pointer (some ⟨r, 0, none⟩), .int .i64 n] w fun e w' => ∃ k : Int, e = .returned (.int .i64 k) ∧ InR n k ∧ Rd w' r (B + 1) ∧ Bk r w w' := by
  have hlt := h.lt
  obtain ⟨a, len, cap, p, hp, hl, hk, hc⟩ := h
  have c0 : w.cell? ⟨r, 0, none⟩ = some (.slice a len cap) := by simp [World.cell?, hk]
  have c1 : w.cell? ⟨r, 1, none⟩ = some (.int .i64 p) := by simp [World.cell?, hk]
  have f1 : w.frozen? ⟨r, 1, none⟩ = false := by simp [World.frozen?, hk]
  obtain ⟨N1, N2⟩ := rd_next hp hl hk hc
  have HN1 : Hid (Rd (w.setCell ⟨r, 1, none⟩ (.int .i64 ((p : Int) + 1))) r (B + 1)) := N1
  have HN2 : Hid (Bk r w (w.setCell ⟨r, 1, none⟩ (.int .i64 ((p : Int) + 1)))) := N2
  clear N1 N2 hk
  by_cases hn : n < 1
  · as_aux_lemma =>
      clear hc
      go_enter Tryd.func22, Tryd.ntmps22
      go_wp2
      go_ret
      exact ⟨0, rfl, fun h => absurd h (by omega), HN1.out, HN2.out⟩
  by_cases hz : len = 0
  · as_aux_lemma =>
      have hz' : ((len : Int) == 0) = true := beq_iff_eq.2 (by omega)
      clear hc hz
      go_enter Tryd.func22, Tryd.ntmps22
      go_wp2
      go_ret
      exact ⟨0, rfl, fun h => by omega, HN1.out, HN2.out⟩
  have hz' : ((len : Int) == 0) = false := beq_eq_false_iff_ne.2 (by omega)
  have hn1 : 1 ≤ n := by omega
  by_cases hpl : p < len
  · as_aux_lemma =>
      obtain ⟨b, off, z, rfl, hbr0, hcz, hz0, hz1⟩ := hc p hpl
      have hbr : b ≠ r := by omega
      have hbl : b < w.heap.size := by omega
      have c2 : ∀ v, (w.setCell ⟨r, 1, none⟩ v).cell? ⟨b, off + p, none⟩ = some (.int .u8 z) := fun v => ((Bk.refl r w).set (p := ⟨r, 1, none⟩) (Or.inl rfl) v).cell (p := ⟨b, off + p, none⟩) hbl hbr |>.trans hcz
      clear hc hcz hz hbl
      go_enter Tryd.func22, Tryd.ntmps22
      go_wp2
      go_ret
      exact ⟨_, rfl, fun _ => ⟨Int.emod_nonneg _ (by omega), Int.emod_lt_of_pos _ (by omega)⟩, HN1.out, HN2.out⟩
  · as_aux_lemma =>
      have hm1 : p % len < len := Nat.mod_lt _ (by omega)
      have hm2 : (p * 7 + 3) % len < len := Nat.mod_lt _ (by omega)
      obtain ⟨b, off, z, rfl, hbr0, hcz, hz0, hz1⟩ := hc _ hm1
      have hbr : b ≠ r := by omega
      have hbl : b < w.heap.size := by omega
      obtain ⟨b', off', y, e', hbr', hcy, hy0, hy1⟩ := hc _ hm2
      simp only [Option.some.injEq, Addr.mk.injEq] at e'
      obtain ⟨rfl, rfl, _⟩ := e'
      have c2 : ∀ v, (w.setCell ⟨r, 1, none⟩ v).cell? ⟨b, off + p % len, none⟩ = some (.int .u8 z) := fun v => ((Bk.refl r w).set (p := ⟨r, 1, none⟩) (Or.inl rfl) v).cell (p := ⟨b, off + p % len, none⟩) hbl hbr |>.trans hcz
      have c3 : ∀ v, (w.setCell ⟨r, 1, none⟩ v).cell? ⟨b, off + (p * 7 + 3) % len, none⟩ = some (.int .u8 y) := fun v => ((Bk.refl r w).set (p := ⟨r, 1, none⟩) (Or.inl rfl) v).cell (p := ⟨b, off + (p * 7 + 3) % len, none⟩) hbl hbr |>.trans hcy
      have i1 : 0 ≤ ((p : Int) * 7 + 3) % (len : Int) := Int.emod_nonneg _ (by omega)
      have i2 : ((p : Int) * 7 + 3) % (len : Int) < (len : Int) := Int.emod_lt_of_pos _ (by omega)
      have i3 : (((p : Int) * 7 + 3) % (len : Int)).toNat = (p * 7 + 3) % len := by
        have : ((p : Int) * 7 + 3) % (len : Int) = (((p * 7 + 3) % len : Nat) : Int) := by simp
        rw [this, Int.toNat_natCast]
      clear hc hcz hcy hz hbl hbr'
      go_enter Tryd.func22, Tryd.ntmps22
      go_wp2
      refine wp_region_quiet_lit (by kernel_rfl) (by kernel_rfl) ?_
      repeat (go_big_quiet_step (fail))
      refine wpQuiet_nil ?_
      intro _ hw'
      obtain ⟨nq, hw''⟩ := hw'
      subst hw''
      go_wp2
      go_ret
      refine ⟨_, rfl, ?_, HN1.out.draws _, HN2.out.drewN _⟩
      exact pick_math n z y p len hn1 (by omega) hz0 hz1 hy0 hy1

/-- What the walk is told of the code that came in: bytes in memory, or nil. -/
def IsCode (w : World) (a : Option Addr) (len cap : Nat) : Prop :=
  len ≤ cap ∧ cap ≤ maxLen ∧ ∀ i, i < len → ∃ (b off : Nat) (z : Int), a = some ⟨b, off, none⟩ ∧ b < w.heap.size ∧ w.cell? ⟨b, off + i, none⟩ = some (.int .u8 z) ∧ 0 ≤ z ∧ z ≤ 255

theorem isCode_nil (w : World) : IsCode w none 0 0 := ⟨Nat.le_refl _, Nat.zero_le _, fun _ hi => absurd hi (Nat.not_lt_zero _)⟩
theorem block_of_cell {w : World} {b o : Nat} {v : Value} (h : w.cell? ⟨b, o, none⟩ = some v) : b < w.heap.size := by
  rcases Nat.lt_or_ge b w.heap.size with h1 | h1
  · exact h1
  · simp [World.cell?, Array.getElem?_eq_none h1] at h
theorem getD_mem {zs : List Int} {i : Nat} (h : i < zs.length) : zs.getD i 0 ∈ zs := by
  have e : zs.getD i 0 = zs[i] := by simp [List.getD, h]
  rw [e]; exact List.getElem_mem _
theorem isCode_of {w : World} {x : Addr} {len cap : Nat} {zs : List Int} (hl : len ≤ cap) (hm : cap ≤ maxLen) (hz : zs.length = cap) (hcell : ∀ i, i < zs.length → w.cell? (x.add i) = some (.int .u8 (zs.getD i 0)))
    (hw : ∀ n ∈ zs, (Lit.int .u8 n).wf = true) : IsCode w (some x) len cap := by
  refine ⟨hl, hm, fun i hi => ?_⟩
  obtain ⟨b, off, rfl, hc⟩ := ints_at hcell (by omega)
  have hci := hc i (by omega)
  have hb := bounds_u8 (hw _ (getD_mem (zs := zs) (i := i) (by omega)))
  exact ⟨b, off, _, rfl, block_of_cell hci, hci, hb.1, hb.2⟩

theorem rd_open {w : World} {a : Option Addr} {len cap : Nat} (L : Nat) (hL : L ≤ len) (h2 : L ≤ 2000)
    (hc : ∀ i, i < len → ∃ (b off : Nat) (z : Int), a = some ⟨b, off, none⟩ ∧ b < w.heap.size ∧ w.cell? ⟨b, off + i, none⟩ = some (.int .u8 z) ∧ 0 ≤ z ∧ z ≤ 255) :
    Rd (w.alloc (.cells #[.slice a L cap, .int .i64 0] 58)) w.heap.size 0 := by
  refine ⟨a, L, cap, 0, Nat.le_refl _, h2, ?_, fun i hi => ?_⟩
  · show (w.heap.push _)[w.heap.size]? = _
    simp
  · obtain ⟨b, off, z, e, l, c, z0, z1⟩ := hc i (by omega)
    refine ⟨b, off, z, e, l, ?_, z0, z1⟩
    exact ((k_alloc (Below.refl w.heap.size w) _).cell (p := ⟨b, off + i, none⟩) l).trans c

set_option maxRecDepth 100000 in
set_option maxHeartbeats 400000 in
theorem open_any (a : Option Addr) (len cap : Nat) (w : World) (h : IsCode w a len cap) :
    Calls Tryd.prog 20 #[.slice a len cap] w fun e w' => e = .returned (.pointer (some ⟨w.heap.size, 0, none⟩)) ∧ Rd w' w.heap.size 0 ∧ Below w.heap.size w w' := by
  obtain ⟨h1, h2, hc⟩ := h
  unfold maxLen at h2
  by_cases hl : (2000 : Int) < (len : Int)
  · go_enter Tryd.func20, Tryd.ntmps20
    go_wp2
    go_ret
    exact ⟨rfl, rd_open 2000 (by omega) (by omega) hc, k_alloc (Below.refl _ _) _⟩
  · go_enter Tryd.func20, Tryd.ntmps20
    go_wp2
    go_ret
    exact ⟨rfl, rd_open len (by omega) (by omega) hc, k_alloc (Below.refl _ _) _⟩
end Go.Proofs.YtggmjiddadjilabDoor
