/-
  PROVED HERE: the laws' own pwOk says true; nothing in memory is turned. Also: what the drawing reader's l20Open and pick answer: a reader over the code; a number from 0 to n - 1; of what was in memory nothing is turned but the reader's own place. Also: a region that draws its order may be walked by what holds between two of its operations, whichever have been carried out. Also: the drawing of a text (l20Text, l20AnyText) gives some short string, and turns nothing that was in memory but the reader.
-/
import Derived.Test.YtggmjiddadjilajB3
import Derived.Test.YtggmjiddadjilajB1
import Derived.Test.YtggmjiddadjilajB7
import Derived.WalkLawsBesides
import Derived.WalkSpells
import Derived.Deep.QuietTactic
import Derived.BigQuiet
import Derived.Laws.BitsAllLaws
import Derived.RegionTactic
import Derived.Lib.SmallJoins
import Derived.OpenShut
import Derived.Orders
import Derived.Lib.Strings
import Derived.Deep.RegionWith
namespace Go.Proofs.Ytggmjiddadjilaj
open Go.RowKit

theorem abcOk : txtOkB ⟨#[97, 98, 32, 99]⟩ = true := by decide +kernel
theorem pwOk_any (w : World) : Calls Try.prog 12 #[] w fun e w' => e = .returned (.bool true) ∧ w' = w := by
  go_enter Try.func12, Try.ntmps12
  go_wp2_with fail
  refine (implTxtOk _ _ (by unfold maxLen; decide)).mono ?_
  rw [abcOk]
  rintro e w1 ⟨rfl, rfl⟩
  go_wp2
  go_ret
  exact ⟨rfl, rfl⟩
end Go.Proofs.Ytggmjiddadjilaj
namespace Go.Proofs.Ytggmjiddadjilaj
open Go.RowKit

/-- A reader at block r: over a code of at most 2000 bytes; at most B numbers have been picked. -/
def Rd (w : World) (r B : Nat) : Prop :=
  ∃ (a : Option Addr) (len cap p : Nat), p ≤ B ∧ len ≤ 2000 ∧ w.heap[r]? = some (.cells #[.slice a len cap, .int .i64 p] 98) ∧
    ∀ i, i < len → ∃ (b off : Nat) (z : Int), a = some ⟨b, off, none⟩ ∧ b < r ∧ w.cell? ⟨b, off + i, none⟩ = some (.int .u8 z) ∧ 0 ≤ z ∧ z ≤ 255

theorem Rd.lt {w : World} {r B : Nat} (h : Rd w r B) : r < w.heap.size := by
  obtain ⟨a, len, cap, p, _, _, hb, _⟩ := h
  exact (Array.getElem?_eq_some_iff.1 hb).1
theorem Rd.mono {w : World} {r B B' : Nat} (h : Rd w r B) (hB : B ≤ B') : Rd w r B' := by
  obtain ⟨a, len, cap, p, h1, h⟩ := h
  exact ⟨a, len, cap, p, by omega, h⟩
/-- A reader stays one where its own block and all older ones stay. -/
theorem Rd.kept {w w' : World} {r B : Nat} (h : Rd w r B) (hb : Below w.heap.size w w') : Rd w' r B := by
  have hlt := h.lt
  obtain ⟨a, len, cap, p, h1, h2, hk, hc⟩ := h
  refine ⟨a, len, cap, p, h1, h2, (hb.block r hlt).trans hk, fun i hi => ?_⟩
  obtain ⟨b, off, z, e, l, c, z0, z1⟩ := hc i hi
  exact ⟨b, off, z, e, l, (hb.cell (p := ⟨b, off + i, none⟩) (Nat.lt_trans l hlt)).trans c, z0, z1⟩
/-- .. where its own block and all ahead of it stay. -/
theorem Rd.keep {w w' : World} {r B : Nat} (h : Rd w r B) (hk : ∀ k, k ≤ r → w'.heap[k]? = w.heap[k]?) : Rd w' r B := by
  obtain ⟨a, len, cap, p, h1, h2, hb, hc⟩ := h
  refine ⟨a, len, cap, p, h1, h2, (hk r (Nat.le_refl _)).trans hb, fun i hi => ?_⟩
  obtain ⟨b, off, z, e, l, c, z0, z1⟩ := hc i hi
  exact ⟨b, off, z, e, l, (World.cell?_of_block (w := w) (a := ⟨b, off + i, none⟩) (hk b (Nat.le_of_lt l))).trans c, z0, z1⟩
theorem Rd.alloc {w : World} {r B : Nat} (h : Rd w r B) (o : Obj) : Rd (w.alloc o) r B := h.kept (k_alloc (Below.refl _ _) _)
theorem Rd.set {w : World} {r B : Nat} (h : Rd w r B) {p : Addr} (hp : r < p.block) (u : Value) : Rd (w.setCell p u) r B := h.keep (fun _ hk => Below.heap_setCell _ _ _ _ (by omega))
theorem Rd.drew {w : World} {r B : Nat} (h : Rd w r B) : Rd w.drew r B := h.kept (k_drew (Below.refl _ _))

/-- within 0 .. n - 1, where there is such a number -/
def InR (n k : Int) : Prop := 1 ≤ n → 0 ≤ k ∧ k < n

theorem i64_xor_nonneg (a b : Int) (h1 : 0 ≤ a) (h2 : a < 4611686018427387904) (h3 : 0 ≤ b) (h4 : b < 4611686018427387904) : 0 ≤ bits .xor .i64 a b := by
  obtain ⟨A, rfl⟩ := Int.eq_ofNat_of_zero_le h1
  obtain ⟨B, rfl⟩ := Int.eq_ofNat_of_zero_le h3
  have hx : A ^^^ B < 2 ^ 62 := Nat.xor_lt_two_pow (by omega) (by omega)
  have e : bits .xor .i64 (A : Int) (B : Int) = IntKind.i64.wrap ((BitVec.ofInt 64 (A : Int) ^^^ BitVec.ofInt 64 (B : Int)).toNat : Int) := rfl
  rw [e, BitVec.toNat_xor, ofInt_u64 A (by omega), ofInt_u64 B (by omega)]
  simp [IntKind.wrap, IntKind.bits, IntKind.signed]
  omega

theorem wrap64_in {x : Int} (h1 : 0 ≤ x) (h2 : x < 4611686018427387904) : wrap64 x = x := by unfold wrap64; omega
theorem pick_math (n z y : Int) (p len : Nat) (hn : 1 ≤ n) (hp : p ≤ 1000000) (z0 : 0 ≤ z) (z1 : z ≤ 255) (y0 : 0 ≤ y) (y1 : y ≤ 255) :
    InR n ((bits BinOp.xor IntKind.i64 (wrap64 (z * 131 + y * 1117 + (p : Int) * 29 + wrap64 (wrap64 ((p : Int) / (len : Int)) * 53)))
      (wrap64 ((wrap64 (z * 131 + y * 1117 + (p : Int) * 29 + wrap64 (wrap64 ((p : Int) / (len : Int)) * 53))).tdiv 64))).tmod n) := by
  have q0 : 0 ≤ (p : Int) / (len : Int) := Int.ediv_nonneg (by omega) (by omega)
  have q1 : (p : Int) / (len : Int) ≤ p := Int.ediv_le_self _ (by omega)
  generalize (p : Int) / (len : Int) = q at q0 q1 ⊢
  rw [wrap64_in q0 (by omega), wrap64_in (x := q * 53) (by omega) (by omega), wrap64_in (x := z * 131 + y * 1117 + (p : Int) * 29 + q * 53) (by omega) (by omega)]
  have X0 : 0 ≤ z * 131 + y * 1117 + (p : Int) * 29 + q * 53 := by omega
  have X1 : z * 131 + y * 1117 + (p : Int) * 29 + q * 53 < 4611686018427387904 := by omega
  generalize z * 131 + y * 1117 + (p : Int) * 29 + q * 53 = X at X0 X1 ⊢
  rw [Int.tdiv_eq_ediv_of_nonneg X0, wrap64_in (x := X / 64) (by omega) (by omega)]
  have hx := i64_xor_nonneg X (X / 64) X0 X1 (by omega) (by omega)
  generalize bits BinOp.xor IntKind.i64 X (X / 64) = Y at hx ⊢
  intro _
  rw [Int.tmod_eq_emod_of_nonneg hx]
  exact ⟨Int.emod_nonneg _ (by omega), Int.emod_lt_of_pos _ (by omega)⟩

theorem rd_next {w : World} {r B : Nat} {a : Option Addr} {len cap p : Nat} (hp : p ≤ B) (hl : len ≤ 2000) (hk : w.heap[r]? = some (.cells #[.slice a len cap, .int .i64 p] 98))
    (hc : ∀ i, i < len → ∃ (b off : Nat) (z : Int), a = some ⟨b, off, none⟩ ∧ b < r ∧ w.cell? ⟨b, off + i, none⟩ = some (.int .u8 z) ∧ 0 ≤ z ∧ z ≤ 255) :
    Rd (w.setCell ⟨r, 1, none⟩ (.int .i64 ((p : Int) + 1))) r (B + 1) ∧ Bk r w (w.setCell ⟨r, 1, none⟩ (.int .i64 ((p : Int) + 1))) := by
  have bk : Bk r w (w.setCell ⟨r, 1, none⟩ (.int .i64 ((p : Int) + 1))) := (Bk.refl r w).set (Or.inl rfl) _
  refine ⟨⟨a, len, cap, p + 1, by omega, hl, ?_, fun i hi => ?_⟩, bk⟩
  · rw [Joins.block_setCell hk]
    simp
  · obtain ⟨b, off, z, e, l, c, z0, z1⟩ := hc i hi
    exact ⟨b, off, z, e, l, (bk.cell (p := ⟨b, off + i, none⟩) (Nat.lt_trans l (Array.getElem?_eq_some_iff.1 hk).1) (Nat.ne_of_lt l)).trans c, z0, z1⟩
theorem Rd.draws {w : World} {r B : Nat} (h : Rd w r B) (n : Nat) : Rd (w.drewN n) r B := h.kept (k_drewN (Below.refl _ _) n)

set_option maxRecDepth 100000 in
set_option maxHeartbeats 1000000 in
theorem pick_any (r B : Nat) (n : Int) (w : World) (h : Rd w r B) (hB : B ≤ 1000000) :
    Calls Try.prog 34 #[.pointer (some ⟨r, 0, none⟩), .int .i64 n] w fun e w' => ∃ k : Int, e = .returned (.int .i64 k) ∧ InR n k ∧ Rd w' r (B + 1) ∧ Bk r w w' := by
  have hlt := h.lt
  obtain ⟨a, len, cap, p, hp, hl, hk, hc⟩ := h
  have c0 : w.cell? ⟨r, 0, none⟩ = some (.slice a len cap) := by simp [World.cell?, hk]
  have c1 : w.cell? ⟨r, 1, none⟩ = some (.int .i64 p) := by simp [World.cell?, hk]
  have f1 : w.frozen? ⟨r, 1, none⟩ = false := by simp [World.frozen?, hk]
  obtain ⟨N1, N2⟩ := rd_next hp hl hk hc
  have HN1 : Hid (Rd (w.setCell ⟨r, 1, none⟩ (.int .i64 ((p : Int) + 1))) r (B + 1)) := N1
  have HN2 : Hid (Bk r w (w.setCell ⟨r, 1, none⟩ (.int .i64 ((p : Int) + 1)))) := N2
  clear N1 N2 hk
  by_cases hn : n < 1
  · as_aux_lemma =>
      clear hc
      go_enter Try.func34, Try.ntmps34
      go_wp2
      go_ret
      exact ⟨0, rfl, fun h => absurd h (by omega), HN1.out, HN2.out⟩
  by_cases hz : len = 0
  · as_aux_lemma =>
      have hz' : ((len : Int) == 0) = true := beq_iff_eq.2 (by omega)
      clear hc hz
      go_enter Try.func34, Try.ntmps34
      go_wp2
      go_ret
      exact ⟨0, rfl, fun h => by omega, HN1.out, HN2.out⟩
  have hz' : ((len : Int) == 0) = false := beq_eq_false_iff_ne.2 (by omega)
  have hn1 : 1 ≤ n := by omega
  by_cases hpl : p < len
  · as_aux_lemma =>
      obtain ⟨b, off, z, rfl, hbr0, hcz, hz0, hz1⟩ := hc p hpl
      have hbr : b ≠ r := by omega
      have hbl : b < w.heap.size := by omega
      have c2 : ∀ v, (w.setCell ⟨r, 1, none⟩ v).cell? ⟨b, off + p, none⟩ = some (.int .u8 z) := fun v => ((Bk.refl r w).set (p := ⟨r, 1, none⟩) (Or.inl rfl) v).cell (p := ⟨b, off + p, none⟩) hbl hbr |>.trans hcz
      clear hc hcz hz hbl
      go_enter Try.func34, Try.ntmps34
      go_wp2
      go_ret
      exact ⟨_, rfl, fun _ => ⟨Int.emod_nonneg _ (by omega), Int.emod_lt_of_pos _ (by omega)⟩, HN1.out, HN2.out⟩
  · as_aux_lemma =>
      have hm1 : p % len < len := Nat.mod_lt _ (by omega)
      have hm2 : (p * 7 + 3) % len < len := Nat.mod_lt _ (by omega)
      obtain ⟨b, off, z, rfl, hbr0, hcz, hz0, hz1⟩ := hc _ hm1
      have hbr : b ≠ r := by omega
      have hbl : b < w.heap.size := by omega
      obtain ⟨b', off', y, e', hbr', hcy, hy0, hy1⟩ := hc _ hm2
      simp only [Option.some.injEq, Addr.mk.injEq] at e'
      obtain ⟨rfl, rfl, _⟩ := e'
      have c2 : ∀ v, (w.setCell ⟨r, 1, none⟩ v).cell? ⟨b, off + p % len, none⟩ = some (.int .u8 z) := fun v => ((Bk.refl r w).set (p := ⟨r, 1, none⟩) (Or.inl rfl) v).cell (p := ⟨b, off + p % len, none⟩) hbl hbr |>.trans hcz
      have c3 : ∀ v, (w.setCell ⟨r, 1, none⟩ v).cell? ⟨b, off + (p * 7 + 3) % len, none⟩ = some (.int .u8 y) := fun v => ((Bk.refl r w).set (p := ⟨r, 1, none⟩) (Or.inl rfl) v).cell (p := ⟨b, off + (p * 7 + 3) % len, none⟩) hbl hbr |>.trans hcy
      have i1 : 0 ≤ ((p : Int) * 7 + 3) % (len : Int) := Int.emod_nonneg _ (by omega)
      have i2 : ((p : Int) * 7 + 3) % (len : Int) < (len : Int) := Int.emod_lt_of_pos _ (by omega)
      have i3 : (((p : Int) * 7 + 3) % (len : Int)).toNat = (p * 7 + 3) % len := by
        have : ((p : Int) * 7 + 3) % (len : Int) = (((p * 7 + 3) % len : Nat) : Int) := by simp
        rw [this, Int.toNat_natCast]
      clear hc hcz hcy hz hbl hbr'
      go_enter Try.func34, Try.ntmps34
      go_wp2
      refine wp_region_quiet_lit (by kernel_rfl) (by kernel_rfl) ?_
      repeat (go_big_quiet_step (fail))
      refine wpQuiet_nil ?_
      intro _ hw'
      obtain ⟨nq, hw''⟩ := hw'
      subst hw''
      go_wp2
      go_ret
      refine ⟨_, rfl, ?_, HN1.out.draws _, HN2.out.drewN _⟩
      exact pick_math n z y p len hn1 (by omega) hz0 hz1 hy0 hy1

/-- What the walk is told of the code that came in: bytes in memory, or nil. -/
def IsCode (w : World) (a : Option Addr) (len cap : Nat) : Prop :=
  len ≤ cap ∧ cap ≤ maxLen ∧ ∀ i, i < len → ∃ (b off : Nat) (z : Int), a = some ⟨b, off, none⟩ ∧ b < w.heap.size ∧ w.cell? ⟨b, off + i, none⟩ = some (.int .u8 z) ∧ 0 ≤ z ∧ z ≤ 255

theorem isCode_nil (w : World) : IsCode w none 0 0 := ⟨Nat.le_refl _, Nat.zero_le _, fun _ hi => absurd hi (Nat.not_lt_zero _)⟩
theorem block_of_cell {w : World} {b o : Nat} {v : Value} (h : w.cell? ⟨b, o, none⟩ = some v) : b < w.heap.size := by
  rcases Nat.lt_or_ge b w.heap.size with h1 | h1
  · exact h1
  · simp [World.cell?, Array.getElem?_eq_none h1] at h
theorem getD_mem {zs : List Int} {i : Nat} (h : i < zs.length) : zs.getD i 0 ∈ zs := by
  have e : zs.getD i 0 = zs[i] := by simp [List.getD, h]
  rw [e]; exact List.getElem_mem _
theorem isCode_of {w : World} {x : Addr} {len cap : Nat} {zs : List Int} (hl : len ≤ cap) (hm : cap ≤ maxLen) (hz : zs.length = cap) (hcell : ∀ i, i < zs.length → w.cell? (x.add i) = some (.int .u8 (zs.getD i 0)))
    (hw : ∀ n ∈ zs, (Lit.int .u8 n).wf = true) : IsCode w (some x) len cap := by
  refine ⟨hl, hm, fun i hi => ?_⟩
  obtain ⟨b, off, rfl, hc⟩ := ints_at hcell (by omega)
  have hci := hc i (by omega)
  have hb := bounds_u8 (hw _ (getD_mem (zs := zs) (i := i) (by omega)))
  exact ⟨b, off, _, rfl, block_of_cell hci, hci, hb.1, hb.2⟩

theorem rd_open {w : World} {a : Option Addr} {len cap : Nat} (L : Nat) (hL : L ≤ len) (h2 : L ≤ 2000)
    (hc : ∀ i, i < len → ∃ (b off : Nat) (z : Int), a = some ⟨b, off, none⟩ ∧ b < w.heap.size ∧ w.cell? ⟨b, off + i, none⟩ = some (.int .u8 z) ∧ 0 ≤ z ∧ z ≤ 255) :
    Rd (w.alloc (.cells #[.slice a L cap, .int .i64 0] 98)) w.heap.size 0 := by
  refine ⟨a, L, cap, 0, Nat.le_refl _, h2, ?_, fun i hi => ?_⟩
  · show (w.heap.push _)[w.heap.size]? = _
    simp
  · obtain ⟨b, off, z, e, l, c, z0, z1⟩ := hc i (by omega)
    refine ⟨b, off, z, e, l, ?_, z0, z1⟩
    exact ((k_alloc (Below.refl w.heap.size w) _).cell (p := ⟨b, off + i, none⟩) l).trans c

set_option maxRecDepth 100000 in
set_option maxHeartbeats 400000 in
theorem open_any (a : Option Addr) (len cap : Nat) (w : World) (h : IsCode w a len cap) :
    Calls Try.prog 32 #[.slice a len cap] w fun e w' => e = .returned (.pointer (some ⟨w.heap.size, 0, none⟩)) ∧ Rd w' w.heap.size 0 ∧ Below w.heap.size w w' := by
  obtain ⟨h1, h2, hc⟩ := h
  unfold maxLen at h2
  by_cases hl : (2000 : Int) < (len : Int)
  · go_enter Try.func32, Try.ntmps32
    go_wp2
    go_ret
    exact ⟨rfl, rd_open 2000 (by omega) (by omega) hc, k_alloc (Below.refl _ _) _⟩
  · go_enter Try.func32, Try.ntmps32
    go_wp2
    go_ret
    exact ⟨rfl, rd_open len (by omega) (by omega) hc, k_alloc (Below.refl _ _) _⟩
end Go.Proofs.Ytggmjiddadjilaj
namespace Go.Proofs.Ytggmjiddadjilaj
open Go.RowKit

/-- a block of the call's own -/
def Hp (n0 : Nat) (w : World) (g : Nat) (o : Obj) : Prop := n0 ≤ g ∧ w.heap[g]? = some o
theorem Hp.lt {n0 g : Nat} {w : World} {o : Obj} (h : Hp n0 w g o) : g < w.heap.size := (Array.getElem?_eq_some_iff.1 h.2).1
theorem Hp.bk {n0 g r : Nat} {w w' : World} {o : Obj} (h : Hp n0 w g o) (hr : r < n0) (k : Bk r w w') : Hp n0 w' g o := ⟨h.1, (k.block g h.lt (by have := h.1; omega)).trans h.2⟩
theorem Hp.alloc {n0 g : Nat} {w : World} {o : Obj} (h : Hp n0 w g o) (q : Obj) : Hp n0 (w.alloc q) g o := ⟨h.1, (Below.heap_alloc _ _ _ h.lt).trans h.2⟩
theorem Hp.new {n0 : Nat} {w : World} (h : n0 ≤ w.heap.size) (q : Obj) : Hp n0 (w.alloc q) w.heap.size q := ⟨h, by show (w.heap.push q)[w.heap.size]? = _; simp⟩
/-- a number within bounds -/
def PI (lo hi : Int) (u : Value) : Prop := ∃ k : Int, u = .int .i64 k ∧ lo ≤ k ∧ k ≤ hi
/-- a short text -/
def PS (n : Nat) (u : Value) : Prop := ∃ s : ByteArray, u = .string s ∧ s.size ≤ n
/-- a list of numbers that has been written out -/
def PL (n0 : Nat) (w : World) (n : Nat) (arr : Array Value) (u : Value) : Prop := ∃ g, u = .slice (some ⟨g, 0, none⟩) n n ∧ Hp n0 w g (.cells arr 3)
/-- a place in such a list -/
def PA (n0 : Nat) (w : World) (lo hi : Int) (u : Value) : Prop := ∃ g k arr, u = .pointer (some ⟨g, k, none⟩) ∧ Hp n0 w g (.cells arr 3) ∧ ∃ v : Int, arr[k]? = some (.int .i64 v) ∧ lo ≤ v ∧ v ≤ hi
theorem PL.bk {n0 n r : Nat} {w w' : World} {arr : Array Value} {u : Value} (h : PL n0 w n arr u) (hr : r < n0) (k : Bk r w w') : PL n0 w' n arr u := by
  obtain ⟨g, e, hg⟩ := h; exact ⟨g, e, hg.bk hr k⟩
theorem PA.bk {n0 r : Nat} {w w' : World} {lo hi : Int} {u : Value} (h : PA n0 w lo hi u) (hr : r < n0) (k : Bk r w w') : PA n0 w' lo hi u := by
  obtain ⟨g, k', arr, e, hg, hv⟩ := h; exact ⟨g, k', arr, e, hg.bk hr k, hv⟩
theorem bk_alloc (r : Nat) (w : World) (o : Obj) : Bk r w (w.alloc o) := (Bk.refl r w).alloc o
end Go.Proofs.Ytggmjiddadjilaj
namespace Go.Proofs.Ytggmjiddadjilaj
open Go.RowKit

theorem lit7 (s0 s1 s2 s3 s4 s5 s6 : ByteArray) (n : Nat) (h : s0.size ≤ n ∧ s1.size ≤ n ∧ s2.size ≤ n ∧ s3.size ≤ n ∧ s4.size ≤ n ∧ s5.size ≤ n ∧ s6.size ≤ n) (k : Int) (h0 : 0 ≤ k) (h1 : k < 7) :
    ∃ v : ByteArray, v.size ≤ n ∧ (#[Value.string s0, .string s1, .string s2, .string s3, .string s4, .string s5, .string s6] : Array Value)[k.toNat]? = some (.string v) ∧ ∀ h, ([Value.string s0, .string s1, .string s2, .string s3, .string s4, .string s5, .string s6] : List Value)[k.toNat]'h = .string v := by
  rcases (by omega : k = 0 ∨ k = 1 ∨ k = 2 ∨ k = 3 ∨ k = 4 ∨ k = 5 ∨ k = 6) with rfl | rfl | rfl | rfl | rfl | rfl | rfl
  · exact ⟨s0, h.1, rfl, fun _ => rfl⟩
  · exact ⟨s1, h.2.1, rfl, fun _ => rfl⟩
  · exact ⟨s2, h.2.2.1, rfl, fun _ => rfl⟩
  · exact ⟨s3, h.2.2.2.1, rfl, fun _ => rfl⟩
  · exact ⟨s4, h.2.2.2.2.1, rfl, fun _ => rfl⟩
  · exact ⟨s5, h.2.2.2.2.2.1, rfl, fun _ => rfl⟩
  · exact ⟨s6, h.2.2.2.2.2.2, rfl, fun _ => rfl⟩
theorem toListNil {s : ByteArray} (h : s.size = 0) : s.toList = [] := by
  rw [Lib.toList_data]; exact List.eq_nil_of_length_eq_zero (by simpa using h)
theorem sizeNil {s : ByteArray} (h : s.toList = []) : s.size = 0 := by
  rw [Lib.toList_data] at h; have := congrArg List.length h; simpa using this
theorem three_size {s v : ByteArray} {q : Nat} (hs : s.size ≤ 30) (hq : q ≤ s.size) (hv : v.size ≤ 31) : (s.extract 0 q ++ v ++ s.extract q s.size).size ≤ 61 := by
  rw [ByteArray.size_append, ByteArray.size_append, ByteArray.size_extract, ByteArray.size_extract]; omega
theorem newestT (w : World) (q : Obj) : (w.alloc q).heap[w.heap.size]? = some q := by show (w.heap.push q)[w.heap.size]? = _; simp

/-- the words that are drawn from, in the block g -/
def WordsAt (w : World) (g : Nat) : Prop := w.heap[g]? = some (.cells #[.string ⟨#[97]⟩, .string ⟨#[97, 110]⟩, .string ⟨#[116, 104, 101]⟩, .string ⟨#[111, 118, 101, 114]⟩, .string ⟨#[117, 110, 100, 101, 114]⟩, .string ⟨#[109, 101, 97, 100, 111, 119]⟩, .string ⟨#[108, 105, 103, 104, 116, 104, 111, 117, 115, 101]⟩] 9)

set_option maxRecDepth 100000 in
set_option maxHeartbeats 2000000 in
theorem l20Text_any (r B : Nat) (w : World) (h : Rd w r B) (hB : B ≤ 900000) :
    Calls Try.prog 75 #[.pointer (some ⟨r, 0, none⟩)] w fun e w' => ∃ s : ByteArray, e = .returned (.string s) ∧ s.size ≤ 30 ∧ Rd w' r (B + 6) ∧ Bk r w w' := by
  have hlt := h.lt
  have hr0 : w.heap.size ≠ r := by omega
  have HR : Hid (Rd w r B) := h
  clear h
  go_enter Try.func75, Try.ntmps75
  go_wp2_with fail
  refine (pick_any r B _ _ (Rd.alloc HR.out _) (by omega)).mono ?_
  rintro e w1 ⟨k1, rfl, hk1, hR1, hb1⟩
  obtain ⟨hk1a, hk1b⟩ := hk1 (by omega)
  have hz1 := hb1.size
  simp at hz1
  have W1 := Hid.intro ((hb1.block w.heap.size (by simp) hr0).trans (newestT _ _))
  have HR1 : Hid (Rd w1 r (B + 1)) := hR1
  have HB1 : Hid (Bk r w w1) := Bk.trans (Bk.alloc (Bk.refl r w) _) hb1
  clear hk1 hR1 hb1
  have HW1 : Hid (WordsAt w1 w.heap.size) := W1.out
  obtain ⟨q1, rfl⟩ := Int.eq_ofNat_of_zero_le hk1a
  clear W1
  go_wp2_with fail
  go_loopw [4, 5, 6] (fun s k _ W => ∃ (t : ByteArray) (q : Nat), s = .string t ∧ k = .int .i64 q ∧ t.size ≤ 30 ∧ q ≤ 5 ∧ w.heap.size + 1 ≤ W.heap.size ∧ Hid (Rd W r (B + 6 - q)) ∧ Hid (Bk r w W) ∧ Hid (WordsAt W w.heap.size)) (fun _ k _ _ => (intOf k).toNat)
  case atStart => exact ⟨_, q1, rfl, rfl, by decide, by omega, by omega, Rd.mono HR1.out (by omega), HB1, HW1⟩
  case round =>
    obtain ⟨t, q, rfl, rfl, ht, hq, hsz, HRr, HBr, HWr⟩ := hrel
    by_cases hq0 : q = 0
    · subst hq0
      go_wp2
      go_ret
      exact ⟨t, rfl, ht, HRr.out, HBr.out⟩
    · have hq1 : (0 : Int) < (q : Int) := by omega
      go_wp2_with fail
      refine (pick_any r (B + 6 - q) _ _ HRr.out (by omega)).mono ?_
      rintro e w2 ⟨k2, rfl, hk2, hR2, hb2⟩
      obtain ⟨hk2a, hk2b⟩ := hk2 (by omega)
      have W2 : WordsAt w2 w.heap.size := (hb2.block w.heap.size (by omega) hr0).trans HWr.out
      obtain ⟨v, hv, hl, _⟩ := lit7 ⟨#[97]⟩ ⟨#[97, 110]⟩ ⟨#[116, 104, 101]⟩ ⟨#[111, 118, 101, 114]⟩ ⟨#[117, 110, 100, 101, 114]⟩ ⟨#[109, 101, 97, 100, 111, 119]⟩ ⟨#[108, 105, 103, 104, 116, 104, 111, 117, 115, 101]⟩ 10 (by decide) k2 hk2a hk2b
      have hcv : w2.cell? ⟨w.heap.size, k2.toNat, none⟩ = some (.string v) := (Joins.cell_of_block W2 _).trans hl
      have HW2 : Hid (WordsAt w2 w.heap.size) := W2
      have HR2 : Hid (Rd w2 r (B + 6 - (q - 1))) := Rd.mono hR2 (by omega)
      have HB2 : Hid (Bk r w w2) := Bk.trans HBr.out hb2
      have hz2 : w.heap.size + 1 ≤ w2.heap.size := by have := hb2.size; omega
      clear hk2 hR2 hb2 W2 hl HRr HBr HWr
      by_cases h0 : t.size = 0
      · have he : t.toList = [] := toListNil h0
        go_wp2
        go_roundw
        case rel => exact ⟨v, q - 1, rfl, by go_num, by omega, by omega, hz2, HR2, HB2, HW2⟩
        case measure => simp [intOf]; omega
      · have he : ¬ t.toList = [] := fun h => h0 (sizeNil h)
        have he2 : t.toList.isEmpty = false := by simpa using he
        by_cases h30 : t.size + 1 + v.size ≤ 30
        · have h30' : (t.size : Int) + 1 + (v.size : Int) ≤ 30 := by omega
          go_wp2
          go_roundw
          case rel => exact ⟨_, q - 1, rfl, by go_num, by rw [ByteArray.size_append, ByteArray.size_append]; have : (ByteArray.mk #[32]).size = 1 := rfl; omega, by omega, hz2, HR2, HB2, HW2⟩
          case measure => simp [intOf]; omega
        · have h30' : ¬ (t.size : Int) + 1 + (v.size : Int) ≤ 30 := by omega
          go_wp2
          go_roundw
          case rel => exact ⟨t, q - 1, rfl, by go_num, ht, by omega, hz2, HR2, HB2, HW2⟩
          case measure => simp [intOf]; omega

set_option maxRecDepth 100000 in
set_option maxHeartbeats 2000000 in
theorem l20AnyText_any (r B : Nat) (n : Int) (hn : 1 ≤ n) (w : World) (h : Rd w r B) (hB : B ≤ 800000) :
    Calls Try.prog 62 #[.pointer (some ⟨r, 0, none⟩), .int .i64 n] w fun e w' => ∃ s : ByteArray, e = .returned (.string s) ∧ s.size ≤ 61 ∧ Rd w' r (B + 9) ∧ Bk r w w' := by
  have hlt := h.lt
  have HR : Hid (Rd w r B) := h
  clear h
  go_enter Try.func62, Try.ntmps62
  go_wp2_with fail
  refine (l20Text_any r B _ HR.out (by omega)).mono ?_
  rintro e w1 ⟨s, rfl, hs, hR1, hb1⟩
  have HR1 := Hid.intro hR1
  have HB1 := Hid.intro hb1
  have hz1 := hb1.size
  clear hR1 hb1
  go_wp2_with fail
  refine (pick_any r (B + 6) _ _ HR1.out (by omega)).mono ?_
  rintro e w2 ⟨k2, rfl, hk2, hR2, hb2⟩
  obtain ⟨hk2a, hk2b⟩ := hk2 (by omega)
  have HR2 := Hid.intro hR2
  have HB2 := Hid.intro (Bk.trans HB1.out hb2)
  have hz2 := hb2.size
  clear hR2 hb2 hk2 HR1 HB1
  by_cases h2 : 0 < k2
  · go_wp2
    go_ret
    exact ⟨s, rfl, by omega, Rd.mono HR2.out (by omega), HB2.out⟩
  · go_wp2_with fail
    refine (pick_any r (B + 7) _ _ HR2.out (by omega)).mono ?_
    rintro e w3 ⟨k3, rfl, hk3, hR3, hb3⟩
    obtain ⟨hk3a, hk3b⟩ := hk3 (by omega)
    obtain ⟨q, rfl⟩ := Int.eq_ofNat_of_zero_le hk3a
    have HR3 := Hid.intro hR3
    have HB3 := Hid.intro (Bk.trans HB2.out hb3)
    have hz3 := hb3.size
    clear hR3 hb3 hk3 HR2 HB2
    have hq : (q : Int) ≤ (s.size : Int) := by omega
    have hq' : q ≤ s.size := by omega
    go_wp2_with fail
    have hlr : w3.heap.size ≠ r := by omega
    go_region_with (first
      | (go_at_call 34; refine (pick_any r (B + 8) _ _ (Rd.drew (Rd.alloc HR3.out _)) (by omega)).mono ?_; rintro e w4 ⟨k4, rfl, hk4, hR4, hb4⟩; obtain ⟨hk4a, hk4b⟩ := hk4 (by omega); obtain ⟨v, hv, hl, _⟩ := lit7 ⟨#[32]⟩ ⟨#[32, 32]⟩ ⟨#[65]⟩ ⟨#[49]⟩ ⟨#[45]⟩ ⟨#[0]⟩ ⟨#[97, 98, 99, 100, 101, 102, 103, 104, 105, 106, 97, 98, 99, 100, 101, 102, 103, 104, 105, 106, 97, 98, 99, 100, 101, 102, 103, 104, 105, 106, 120]⟩ 31 (by decide) k4 hk4a hk4b; have hcv : w4.cell? ⟨w3.heap.size, k4.toNat, none⟩ = some (.string v) := (Joins.cell_of_block ((hb4.block w3.heap.size (by simp) hlr).trans (newestT _ _)) _).trans hl; have HR4 := Hid.intro hR4; have HB4 := Hid.intro (Bk.trans (Bk.drew (Bk.alloc HB3.out _)) hb4); clear hk4 hR4 hb4 hl)
      | (go_at_call 34; refine (pick_any r (B + 8) _ _ (Rd.drew HR3.out) (by omega)).mono ?_; rintro e w4 ⟨k4, rfl, hk4, hR4, hb4⟩; obtain ⟨hk4a, hk4b⟩ := hk4 (by omega); obtain ⟨v, hv, hl, hge⟩ := lit7 ⟨#[32]⟩ ⟨#[32, 32]⟩ ⟨#[65]⟩ ⟨#[49]⟩ ⟨#[45]⟩ ⟨#[0]⟩ ⟨#[97, 98, 99, 100, 101, 102, 103, 104, 105, 106, 97, 98, 99, 100, 101, 102, 103, 104, 105, 106, 97, 98, 99, 100, 101, 102, 103, 104, 105, 106, 120]⟩ 31 (by decide) k4 hk4a hk4b; have HR4 := Hid.intro hR4; have HB4 := Hid.intro (Bk.trans (Bk.drew HB3.out) hb4); clear hk4 hR4 hb4 hl))
    all_goals
      go_wp2
      go_ret
      exact ⟨_, rfl, three_size hs hq' hv, by first | exact HR4.out | exact Rd.alloc HR4.out _, by first | exact HB4.out | exact Bk.alloc HB4.out _⟩
end Go.Proofs.Ytggmjiddadjilaj
