/-
  PROVED HERE: small laws on blocks of cells in memory, for the other texts of this claim. Also: the best of borders, as a list's; borders, each with its cell, in memory. Also: what the program's method beats and its BrdBeats answer at any two borders. Also: the program's bestOf and BrdBest answer the best of any borders in memory; nothing that was in memory is turned. Also: what the model's BrdBeats answers at any two borders. Also: a region that draws its order, whose own operations only read and whose callees turn nothing that was in memory, may be walked once, in its text's order.
-/
import Derived.Test.YtfkkhfiiokhnaagB1
import Derived.Test.YtfkkhfiiokhnaagB4
import Derived.Laws.MakeOwn
import Derived.OwnWalk
import Derived.Lib.SmallJoins
import Derived.WalkLawsBesides
import Derived.WalkSpells
import Derived.Deep.DeepCutAuto
import Derived.Deep.QuietTactic
import Derived.BigQuiet
namespace Go.Proofs.Ytfkkhfiiokhnaag
open Go.RowKit

theorem sizeSet (w : World) (p : Addr) (v : Value) : (w.setCell p v).heap.size = w.heap.size := by simp [World.setCell]
theorem newestB (w : World) (q : Obj) : (w.alloc q).heap[w.heap.size]? = some q := by show (w.heap.push q)[w.heap.size]? = _; simp
theorem cellB {w : World} {g p : Nat} {arr : Array Value} {t : TypeId} (h : w.heap[g]? = some (.cells arr t)) : w.cell? ⟨g, p, none⟩ = arr[p]? := Joins.cell_of_block h p
theorem someB {w : World} {g p : Nat} {arr : Array Value} {t : TypeId} (h : w.heap[g]? = some (.cells arr t)) (hp : p < arr.size) : ∃ v, w.cell? ⟨g, p, none⟩ = some v := ⟨_, (cellB h).trans (Array.getElem?_eq_getElem hp)⟩
theorem freeB {w : World} {g p : Nat} {arr : Array Value} {t : TypeId} (h : w.heap[g]? = some (.cells arr t)) : w.frozen? ⟨g, p, none⟩ = false := Joins.unfrozen_of_block h p
theorem setB {w : World} {g p : Nat} {arr : Array Value} {t : TypeId} (h : w.heap[g]? = some (.cells arr t)) (v : Value) : (w.setCell ⟨g, p, none⟩ v).heap[g]? = some (.cells (arr.setIfInBounds p v) t) := Joins.block_setCell h v
theorem two_next {arr : Array Value} {n k : Nat} (hs : arr.size = n * 2) (hk : k < n) (x y : Value) :
    (∀ p, p < k * 2 → ((arr.setIfInBounds (k * 2) x).setIfInBounds (k * 2 + 1) y)[p]? = arr[p]?) ∧ ((arr.setIfInBounds (k * 2) x).setIfInBounds (k * 2 + 1) y)[k * 2]? = some x ∧ ((arr.setIfInBounds (k * 2) x).setIfInBounds (k * 2 + 1) y)[k * 2 + 1]? = some y := by
  have eq : ∀ (A : Array Value) (i : Nat) (v : Value), i < A.size → (A.setIfInBounds i v)[i]? = some v := fun A i v hi => by simp [hi]
  refine ⟨fun p hp => ?_, ?_, ?_⟩
  · rw [Array.getElem?_setIfInBounds_ne (by omega), Array.getElem?_setIfInBounds_ne (by omega)]
  · rw [Array.getElem?_setIfInBounds_ne (by omega)]
    exact eq _ _ _ (by omega)
  · exact eq _ _ _ (by rw [Array.size_setIfInBounds]; omega)
/-- what is left of n behind m: -1, if that is less than nothing -/
def leftOf (n : Int) (m : Nat) : Int := if (m : Int) ≤ n then n - m else -1
theorem leftOf_pos {n : Int} {m : Nat} (h : (m : Int) ≤ n) : leftOf n m = n - m := by rw [leftOf, if_pos h]
theorem leftOf_neg {n : Int} {m : Nat} (h : ¬ (m : Int) ≤ n) : leftOf n m = -1 := by rw [leftOf, if_neg h]
theorem retI64 {a b : Int} (h : a = b) : Ending.returned (.int .i64 a) = .returned (.int .i64 b) := by rw [h]
end Go.Proofs.Ytfkkhfiiokhnaag
namespace Go.Proofs.Ytfkkhfiiokhnaag
open Go.RowKit

/-- a border and from which cell it comes: style, width, cell -/
structure Fr where
  s : Int
  w : Int
  c : Int
def dF : Fr := ⟨0, 0, -1⟩
def btF (a b : Fr) : Bool := beatsB a.s a.w b.s b.w
/-- the best of the first k -/
def bestTo (l : List Fr) : Nat → Fr
  | 0 => dF
  | k + 1 => if k = 0 then l.getD 0 dF else if btF (l.getD k dF) (bestTo l k) = true then l.getD k dF else bestTo l k
def bestF (l : List Fr) : Fr := bestTo l l.length
theorem bestTo_yes {l : List Fr} {k : Nat} (h : btF (l.getD (k + 1) dF) (bestTo l (k + 1)) = true) : bestTo l (k + 2) = l.getD (k + 1) dF := by rw [bestTo, if_neg (by omega), if_pos h]
theorem bestTo_no {l : List Fr} {k : Nat} (h : btF (l.getD (k + 1) dF) (bestTo l (k + 1)) = false) : bestTo l (k + 2) = bestTo l (k + 1) := by rw [bestTo, if_neg (by omega), if_neg (by rw [h]; simp)]
/-- borders in memory -/
def FrsAt (w : World) (z : Nat) (v : Value) (l : List Fr) : Prop := At w z v l.length 3 (fun i b o => w.cell? ⟨b, o, none⟩ = some (.int .i64 (l.getD i dF).s) ∧ w.cell? ⟨b, o + 1, none⟩ = some (.int .i64 (l.getD i dF).w) ∧ w.cell? ⟨b, o + 2, none⟩ = some (.int .i64 (l.getD i dF).c))
theorem FrsAt.kept {w w' : World} {z : Nat} {v : Value} {l : List Fr} (h : FrsAt w z v l) (k : Below w.heap.size w w') : FrsAt w' z v l :=
  At.mono h k.size (Nat.le_refl _) (fun _ b _ _ hb _ he => ⟨(k.cell (p := ⟨b, _, none⟩) hb).trans he.1, (k.cell (p := ⟨b, _, none⟩) hb).trans he.2.1, (k.cell (p := ⟨b, _, none⟩) hb).trans he.2.2⟩)
theorem FrsAt.base {w : World} {z z' : Nat} {v : Value} {l : List Fr} (h : FrsAt w z v l) (hz : z' ≤ z) : FrsAt w z' v l := At.mono h (Nat.le_refl _) hz (fun _ _ _ _ _ _ he => he)
/-- three cells of a block, and none is frozen -/
theorem cells3 {w : World} {g : Nat} {x0 x1 x2 : Value} {t : TypeId} (h : w.heap[g]? = some (.cells #[x0, x1, x2] t)) :
    (w.cell? ⟨g, 0, none⟩ = some x0 ∧ w.cell? ⟨g, 1, none⟩ = some x1 ∧ w.cell? ⟨g, 2, none⟩ = some x2) ∧ w.frozen? ⟨g, 0, none⟩ = false ∧ w.frozen? ⟨g, 1, none⟩ = false ∧ w.frozen? ⟨g, 2, none⟩ = false :=
  ⟨⟨cellB h, cellB h, cellB h⟩, freeB h, freeB h, freeB h⟩
/-- three stores into a block -/
def st3 (w : World) (g : Nat) (y0 y1 y2 : Value) : World := ((w.setCell ⟨g, 0, none⟩ y0).setCell ⟨g, 1, none⟩ y1).setCell ⟨g, 2, none⟩ y2
theorem st3_bk (w : World) (g : Nat) (y0 y1 y2 : Value) : Bk g w (st3 w g y0 y1 y2) := (Bk.set (Bk.set (Bk.set (Bk.refl g w) (p := ⟨g, 0, none⟩) (.inl rfl) y0) (p := ⟨g, 1, none⟩) (.inl rfl) y1) (p := ⟨g, 2, none⟩) (.inl rfl) y2)
theorem st3_is {w : World} {g : Nat} {x0 x1 x2 : Value} {t : TypeId} (h : w.heap[g]? = some (.cells #[x0, x1, x2] t)) (y0 y1 y2 : Value) : (st3 w g y0 y1 y2).heap[g]? = some (.cells #[y0, y1, y2] t) :=
  (setB (setB (setB h (p := 0) y0) (p := 1) y1) (p := 2) y2).trans (by simp)
/-- one, two borders in a new block -/
theorem frs_one (w : World) (a : Fr) (T : TypeId) : FrsAt (w.alloc (.cells #[.int .i64 a.s, .int .i64 a.w, .int .i64 a.c] T)) w.heap.size (.slice (some ⟨w.heap.size, 0, none⟩) 1 1) [a] :=
  ⟨_, 1, rfl, Nat.le_refl _, by decide, fun i hi => ⟨w.heap.size, 0, rfl, by simp, Nat.le_refl _, by
    obtain rfl : i = 0 := by simpa using hi
    exact ⟨cellB (newestB _ _), cellB (newestB _ _), cellB (newestB _ _)⟩⟩⟩
theorem frs_two (w : World) (a b : Fr) (T : TypeId) : FrsAt (w.alloc (.cells #[.int .i64 a.s, .int .i64 a.w, .int .i64 a.c, .int .i64 b.s, .int .i64 b.w, .int .i64 b.c] T)) w.heap.size (.slice (some ⟨w.heap.size, 0, none⟩) 2 2) [a, b] :=
  ⟨_, 2, rfl, Nat.le_refl _, by decide, fun i hi => ⟨w.heap.size, 0, rfl, by simp, Nat.le_refl _, by
    have hi : i < 2 := by simpa using hi
    rcases (by omega : i = 0 ∨ i = 1) with rfl | rfl
    · exact ⟨cellB (newestB _ _), cellB (newestB _ _), cellB (newestB _ _)⟩
    · exact ⟨cellB (newestB _ _), cellB (newestB _ _), cellB (newestB _ _)⟩⟩⟩
end Go.Proofs.Ytfkkhfiiokhnaag
namespace Go.Proofs.Ytfkkhfiiokhnaag
open Go.RowKit

set_option maxRecDepth 100000 in
set_option maxHeartbeats 400000 in
theorem implbeats (a b c d : Int) (w : World) :
    Calls Try.prog 45 #[.agg #[.int .i64 a, .int .i64 b], .agg #[.int .i64 c, .int .i64 d]] w fun e w' => e = .returned (.bool (beatsB a b c d)) ∧ w' = (w.alloc (.cells #[.int .i64 a, .int .i64 b] 34)).alloc (.cells #[.int .i64 c, .int .i64 d] 34) := by
  by_cases ha : a = 4
  · subst ha
    by_cases hc : c = 4
    · subst hc
      have HB := Hid.intro (beats_hid2 (a := 4) b d)
      go_enter Try.func45, Try.ntmps45
      go_wp2
      go_ret
      exact ⟨retB HB.out.symm, rfl⟩
    · have e1 : (c == 4) = false := beq_eq_false_iff_ne.2 hc
      have e2 : (c != 4) = true := bne_iff_ne.2 hc
      have HB := Hid.intro (beats_hid1 b d hc)
      clear hc
      go_enter Try.func45, Try.ntmps45
      go_wp2
      go_ret
      exact ⟨retB HB.out.symm, rfl⟩
  have a1 : (a == 4) = false := beq_eq_false_iff_ne.2 ha
  by_cases hc : c = 4
  · subst hc
    have HB := Hid.intro (beats_hid2 (a := a) b d)
    clear ha
    go_enter Try.func45, Try.ntmps45
    go_wp2
    go_ret
    exact ⟨retB HB.out.symm, rfl⟩
  have e1 : (c == 4) = false := beq_eq_false_iff_ne.2 hc
  by_cases h : b = d
  · subst h
    have HB := Hid.intro (beats_style (b := b) ha hc)
    clear ha hc
    go_enter Try.func45, Try.ntmps45
    go_wp2
    go_ret
    exact ⟨retB HB.out.symm, rfl⟩
  · have h1 : (b != d) = true := bne_iff_ne.2 h
    have HB := Hid.intro (beats_wide ha hc h)
    clear ha hc h
    go_enter Try.func45, Try.ntmps45
    go_wp2
    go_ret
    exact ⟨retB HB.out.symm, rfl⟩

set_option maxRecDepth 100000 in
theorem implBrdBeats (a b c d : Int) (w : World) :
    Calls Try.prog 15 #[.agg #[.int .i64 a, .int .i64 b], .agg #[.int .i64 c, .int .i64 d]] w fun e w' => e = .returned (.bool (beatsB a b c d)) ∧ Below w.heap.size w w' := by
  go_enter Try.func15, Try.ntmps15
  go_wp2_with fail
  refine (implbeats _ _ _ _ _).mono ?_
  rintro e w1 ⟨rfl, rfl⟩
  go_wp2
  go_ret
  exact ⟨rfl, by repeat (first | exact Below.refl _ _ | apply k_alloc)⟩
end Go.Proofs.Ytfkkhfiiokhnaag
namespace Go.Proofs.Ytfkkhfiiokhnaag
open Go.RowKit

theorem implbeatsB (a b c d : Int) (w : World) : Calls Try.prog 45 #[.agg #[.int .i64 a, .int .i64 b], .agg #[.int .i64 c, .int .i64 d]] w fun e w' => e = .returned (.bool (beatsB a b c d)) ∧ Below w.heap.size w w' := (implbeats a b c d w).mono (fun _ _ ⟨h1, h2⟩ => ⟨h1, by rw [h2]; exact k_alloc (k_alloc (Below.refl _ _) _) _⟩)
set_option maxRecDepth 100000 in
set_option maxHeartbeats 1000000 in
theorem implbestOf (v : Value) (l : List Fr) (hl : l.length ≤ 1000000) (w : World) {z : Nat} (h : FrsAt w z v l) :
    Calls Try.prog 47 #[v] w fun e w' => e = .returned (.agg #[.int .i64 (bestF l).s, .int .i64 (bestF l).w, .int .i64 (bestF l).c]) ∧ Below w.heap.size w w' := by
  obtain ⟨a, cap, rfl, hlen⟩ := At.form h
  by_cases h0 : l.length = 0
  · obtain rfl : l = [] := List.eq_nil_of_length_eq_zero h0
    clear h
    go_enter Try.func47, Try.ntmps47
    go_wp2
    exact bodyPost_ret (v := .agg #[.int .i64 0, .int .i64 0, .int .i64 (-1)]) (by simp [results, Try.results47, go_sem]) rfl ⟨rfl, by repeat (first | exact Below.refl _ _ | apply k_alloc)⟩
  obtain ⟨n, hn⟩ : ∃ n, l.length = n + 1 := ⟨l.length - 1, by omega⟩
  have hK0 := k_alloc (Below.refl w.heap.size w) (.cells #[.int .i64 0, .int .i64 0, .int .i64 0] 42)
  have HA := Hid.intro (h.kept hK0)
  have X0 := newestB w (.cells #[.int .i64 0, .int .i64 0, .int .i64 0] 42)
  have hs0 : (w.alloc (.cells #[.int .i64 0, .int .i64 0, .int .i64 0] 42)).heap.size = w.heap.size + 1 := by simp
  obtain ⟨b, off, cap', e', hc1, hc2, hbl, x0, x1, x2⟩ := At.get (h.kept hK0) (i := 0) (by omega)
  simp only [Value.slice.injEq, true_and] at e'
  obtain ⟨rfl, rfl⟩ := e'
  rw [hn] at hc1 ⊢
  unfold maxLen at hc2
  have HB0 : Hid (l.getD 0 dF = bestTo l 1) := by rw [Hid, bestTo, if_pos rfl]
  have HK0 := Hid.intro hK0
  have HX0 := Hid.intro X0
  have HN := Hid.intro hn
  have hne : (((n : Int) + 1) == 0) = false := beq_eq_false_iff_ne.2 (by omega)
  rw [HB0.out] at x0 x1 x2
  rw [Nat.zero_mul, Nat.add_zero] at x0 x1 x2
  have h0 := h
  clear h hn hlen hK0 X0
  go_enter Try.func47, Try.ntmps47
  go_upto_region 3 with fail
  generalize w.alloc (.cells #[.int .i64 0, .int .i64 0, .int .i64 0] 42) = W0 at HA hs0 hbl x0 x1 x2 HK0 HX0 ⊢
  have HX1 := Hid.intro (newestB W0 (.cells #[.int .i64 (bestTo l 1).s, .int .i64 (bestTo l 1).w, .int .i64 (bestTo l 1).c] 42))
  have HZ1 := Hid.intro ((Below.heap_alloc W0 (.cells #[.int .i64 (bestTo l 1).s, .int .i64 (bestTo l 1).w, .int .i64 (bestTo l 1).c] 42) w.heap.size (by omega)).trans HX0.out)
  have HK1 := Hid.intro (k_alloc HK0.out (.cells #[.int .i64 (bestTo l 1).s, .int .i64 (bestTo l 1).w, .int .i64 (bestTo l 1).c] 42))
  have HA1 := Hid.intro (HA.out.kept (k_alloc (Below.refl _ _) (.cells #[.int .i64 (bestTo l 1).s, .int .i64 (bestTo l 1).w, .int .i64 (bestTo l 1).c] 42)))
  rw [hs0] at HX1
  go_upto_region 4 with fail
  generalize W0.alloc (.cells #[.int .i64 (bestTo l 1).s, .int .i64 (bestTo l 1).w, .int .i64 (bestTo l 1).c] 42) = W1 at HX1 HZ1 HK1 HA1 ⊢
  clear HA x0 x1 x2 HK0 HX0 hs0 hbl
  by_cases hcap : cap = 1
  · subst hcap
    obtain rfl : n = 0 := by omega
    have HX := HX1
    have HZ := HZ1
    have HK := HK1
    go_wp2_with fail
    go_loopw [16] (fun s W => s = .int .i64 0 ∧ Hid (W = W1)) (fun _ _ => 0)
    case atStart => exact ⟨rfl, rfl⟩
    case round =>
      obtain ⟨rfl, HW⟩ := hrel
      obtain rfl := HW.out
      obtain ⟨⟨c0, c1, c2⟩, _⟩ := cells3 HX.out
      obtain ⟨⟨d0, d1, d2⟩, f0, f1, f2⟩ := cells3 HZ.out
      have HBl : Hid (Below w.heap.size w (st3 _ w.heap.size (.int .i64 (bestTo l 1).s) (.int .i64 (bestTo l 1).w) (.int .i64 (bestTo l 1).c))) := HK.out.trans ((st3_bk _ _ _ _ _).below HK.out.size (Nat.le_refl _))
      have HE : Hid (bestF l = bestTo l 1) := by rw [Hid, bestF, HN.out]
      generalize bestTo l 1 = y at *
      go_wp2
      exact bodyPost_ret (v := .agg #[.int .i64 y.s, .int .i64 y.w, .int .i64 y.c]) (by simp [results, Try.results47, go_sem, d0, d1, d2]) rfl ⟨by rw [HE.out], HBl.out⟩
  · have hc3 : (n : Int) + 1 ≤ (cap : Int) := by omega
    go_wp2_with fail
    go_loopw [16] (fun s W => ∃ k : Nat, s = .int .i64 k ∧ k ≤ n ∧ Hid (W.heap[w.heap.size + 1]? = some (.cells #[.int .i64 (bestTo l (k + 1)).s, .int .i64 (bestTo l (k + 1)).w, .int .i64 (bestTo l (k + 1)).c] 42)) ∧ Hid (W.heap[w.heap.size]? = some (.cells #[.int .i64 0, .int .i64 0, .int .i64 0] 42)) ∧ Hid (Below w.heap.size w W)) (fun s _ => n - (intOf s).toNat)
    case atStart => exact ⟨0, rfl, Nat.zero_le _, HX1, HZ1, HK1⟩
    case round =>
      obtain ⟨k, rfl, hk, HX, HZ, HK⟩ := hrel
      by_cases hlt : k < n
      case neg =>
        obtain rfl : k = n := by omega
        obtain ⟨⟨c0, c1, c2⟩, _⟩ := cells3 HX.out
        obtain ⟨⟨d0, d1, d2⟩, f0, f1, f2⟩ := cells3 HZ.out
        have HBl : Hid (Below w.heap.size w (st3 _ w.heap.size (.int .i64 (bestTo l (k + 1)).s) (.int .i64 (bestTo l (k + 1)).w) (.int .i64 (bestTo l (k + 1)).c))) := HK.out.trans ((st3_bk _ _ _ _ _).below HK.out.size (Nat.le_refl _))
        have HE : Hid (bestF l = bestTo l (k + 1)) := by rw [Hid, bestF, HN.out]
        generalize bestTo l (k + 1) = y at *
        go_wp2
        exact bodyPost_ret (v := .agg #[.int .i64 y.s, .int .i64 y.w, .int .i64 y.c]) (by simp [results, Try.results47, go_sem, d0, d1, d2]) rfl ⟨by rw [HE.out], HBl.out⟩
      case pos =>
        obtain ⟨b', off', cap'', e', _, _, hbl, x0, x1, x2⟩ := At.get (h0.kept HK.out) (i := k + 1) (by rw [HN.out]; omega)
        rw [HN.out] at e'
        simp only [Value.slice.injEq, Option.some.injEq, Addr.mk.injEq, and_true, true_and] at e'
        obtain ⟨⟨rfl, rfl⟩, rfl⟩ := e'
        rw [show off + (k + 1) * 3 = off + 3 + k * 3 by omega] at x0 x1 x2
        have HY := Hid.intro (fun h => bestTo_yes (l := l) (k := k) h)
        have HNo := Hid.intro (fun h => bestTo_no (l := l) (k := k) h)
        generalize l.getD (k + 1) dF = p at x0 x1 x2 HY HNo
        have hwz : w.heap.size + 1 < wr.heap.size := (Array.getElem?_eq_some_iff.1 HX.out).1
        have HP := Hid.intro (newestB wr (.cells #[.int .i64 p.s, .int .i64 p.w, .int .i64 p.c] 42))
        have HX2 := Hid.intro ((Below.heap_alloc wr (.cells #[.int .i64 p.s, .int .i64 p.w, .int .i64 p.c] 42) (w.heap.size + 1) hwz).trans HX.out)
        have HZ2 := Hid.intro ((Below.heap_alloc wr (.cells #[.int .i64 p.s, .int .i64 p.w, .int .i64 p.c] 42) w.heap.size (by omega)).trans HZ.out)
        have HK2 := Hid.intro (k_alloc HK.out (.cells #[.int .i64 p.s, .int .i64 p.w, .int .i64 p.c] 42))
        clear HX HZ HK
        go_upto_region 7 with fail
        generalize wr.alloc (.cells #[.int .i64 p.s, .int .i64 p.w, .int .i64 p.c] 42) = W3 at HP HX2 HZ2 HK2 ⊢
        generalize wr.heap.size = pb at HP hwz ⊢
        clear x0 x1 x2 hbl
        obtain ⟨⟨c0, c1, c2⟩, _⟩ := cells3 HX2.out
        obtain ⟨⟨p0, p1, p2⟩, _⟩ := cells3 HP.out
        generalize hy : bestTo l (k + 1) = y at *
        have HBt : Hid (btF p y = beatsB p.s p.w y.s y.w) := rfl
        go_wp2_with fail
        refine (implbeatsB _ _ _ _ _).mono ?_
        rintro e w4 ⟨rfl, hb4⟩
        have hpb := (Array.getElem?_eq_some_iff.1 HP.out).1
        have hxb := (Array.getElem?_eq_some_iff.1 HX2.out).1
        have HX4 := Hid.intro ((hb4.block _ hxb).trans HX2.out)
        have HZ4 := Hid.intro ((hb4.block _ (by omega)).trans HZ2.out)
        have HP4 := Hid.intro ((hb4.block _ hpb).trans HP.out)
        have HK4 := Hid.intro (k_trans HK2.out hb4)
        clear hb4 HX2 HZ2 HP HK2 c0 c1 c2 p0 p1 p2 hpb hxb
        cases hbt : beatsB p.s p.w y.s y.w with
        | false =>
          have HE := Hid.intro (HNo.out (HBt.out.trans hbt))
          go_wp2
          go_roundw
          case rel => exact ⟨k + 1, by go_num, by omega, by rw [HE.out]; exact HX4, HZ4, HK4⟩
          case measure => simp [intOf]; omega
        | true =>
          have HE := Hid.intro (HY.out (HBt.out.trans hbt))
          obtain ⟨⟨c0, c1, c2⟩, f0, f1, f2⟩ := cells3 HX4.out
          obtain ⟨⟨p0, p1, p2⟩, _⟩ := cells3 HP4.out
          have HX5 := Hid.intro (st3_is HX4.out (.int .i64 p.s) (.int .i64 p.w) (.int .i64 p.c))
          have hbk := st3_bk w4 (w.heap.size + 1) (.int .i64 p.s) (.int .i64 p.w) (.int .i64 p.c)
          have HZ5 := Hid.intro ((hbk.block w.heap.size (Array.getElem?_eq_some_iff.1 HZ4.out).1 (by omega)).trans HZ4.out)
          have HK5 := Hid.intro (HK4.out.trans (hbk.below HK4.out.size (by omega)))
          clear HX4 HZ4 HP4 HK4 hbk
          go_wp2
          go_roundw
          case rel => exact ⟨k + 1, by go_num, by omega, by rw [HE.out]; exact HX5, HZ5, HK5⟩
          case measure => simp [intOf]; omega
set_option maxRecDepth 100000 in
theorem implBrdBest (v : Value) (l : List Fr) (hl : l.length ≤ 1000000) (w : World) {z : Nat} (h : FrsAt w z v l) :
    Calls Try.prog 19 #[v] w fun e w' => e = .returned (.agg #[.int .i64 (bestF l).s, .int .i64 (bestF l).w, .int .i64 (bestF l).c]) ∧ Below w.heap.size w w' := by
  have K := k_alloc (Below.refl w.heap.size w) (.cells #[.int .i64 0, .int .i64 0, .int .i64 0] 42)
  have X0 := newestB w (.cells #[.int .i64 0, .int .i64 0, .int .i64 0] 42)
  have HA := Hid.intro (h.kept K)
  have HK := Hid.intro K
  have HX := Hid.intro X0
  clear h K X0
  go_enter Try.func19, Try.ntmps19
  go_wp2_with fail
  refine (implbestOf v l hl _ HA.out).mono ?_
  rintro e w1 ⟨rfl, hb1⟩
  have X1 := (hb1.block w.heap.size (by simp)).trans HX.out
  obtain ⟨⟨d0, d1, d2⟩, f0, f1, f2⟩ := cells3 X1
  have HK1 := Hid.intro (k_trans HK.out hb1)
  have HBl := Hid.intro (HK1.out.trans ((st3_bk w1 w.heap.size (.int .i64 (bestF l).s) (.int .i64 (bestF l).w) (.int .i64 (bestF l).c)).below HK1.out.size (Nat.le_refl _)))
  clear hb1 X1 HK HX HK1 HA
  go_wp2
  exact bodyPost_ret (v := .agg #[.int .i64 (bestF l).s, .int .i64 (bestF l).w, .int .i64 (bestF l).c]) (by simp [results, Try.results19, go_sem, d0, d1, d2]) rfl ⟨rfl, HBl.out⟩
end Go.Proofs.Ytfkkhfiiokhnaag
namespace Go.Proofs.Ytfkkhfiiokhnaag
open Go.RowKit

set_option maxRecDepth 100000 in
set_option maxHeartbeats 400000 in
theorem specBrdBeats (a b c d : Int) (w : World) :
    Calls Try.prog 16 #[.agg #[.int .i64 a, .int .i64 b], .agg #[.int .i64 c, .int .i64 d]] w fun e w' => e = .returned (.bool (beatsB a b c d)) ∧ w' = (w.alloc (.cells #[.int .i64 a, .int .i64 b] 34)).alloc (.cells #[.int .i64 c, .int .i64 d] 34) := by
  by_cases ha : a = 4
  · subst ha
    by_cases hc : c = 4
    · subst hc
      have HB := Hid.intro (beats_hid2 (a := 4) b d)
      go_enter Try.func16, Try.ntmps16
      go_wp2
      go_ret
      exact ⟨retB HB.out.symm, rfl⟩
    · have e1 : (c == 4) = false := beq_eq_false_iff_ne.2 hc
      have e2 : (c != 4) = true := bne_iff_ne.2 hc
      have HB := Hid.intro (beats_hid1 b d hc)
      clear hc
      go_enter Try.func16, Try.ntmps16
      go_wp2
      go_ret
      exact ⟨retB HB.out.symm, rfl⟩
  have a1 : (a == 4) = false := beq_eq_false_iff_ne.2 ha
  by_cases hc : c = 4
  · subst hc
    have HB := Hid.intro (beats_hid2 (a := a) b d)
    clear ha
    go_enter Try.func16, Try.ntmps16
    go_wp2
    go_ret
    exact ⟨retB HB.out.symm, rfl⟩
  have e1 : (c == 4) = false := beq_eq_false_iff_ne.2 hc
  by_cases h : b = d
  · subst h
    have HB := Hid.intro (beats_style (b := b) ha hc)
    clear ha hc
    go_enter Try.func16, Try.ntmps16
    go_wp2
    go_ret
    exact ⟨retB HB.out.symm, rfl⟩
  · have h1 : (b != d) = true := bne_iff_ne.2 h
    have HB := Hid.intro (beats_wide ha hc h)
    clear ha hc h
    go_enter Try.func16, Try.ntmps16
    go_wp2
    go_ret
    exact ⟨retB HB.out.symm, rfl⟩
end Go.Proofs.Ytfkkhfiiokhnaag
namespace Go.Proofs.Ytfkkhfiiokhnaag
open Go.RowKit

/-- a world in which what was in memory is as it was -/
structure BW (w : World) where
  u : World
  h : Below w.heap.size w u
theorem bw_some (w : World) : Nonempty (BW w) := ⟨⟨w, Below.refl _ _⟩⟩
theorem wp_region_quiet_below {P : Program} {id : Nat} {Q : Exit → Act → World → Prop} {a : Act} {w : World} {l : List Oper} (hm : P.follows .mixedOrders = true) (hB : Region.lexB .any l.toArray = true)
    (h : wpQuiet P l.toArray (fun w' => ∃ p : BW w, w' = p.u) (fun a' => ∀ w', (∃ p : BW w, w' = p.u) → Q .normal a' w') l a) : (Code.region id l.toArray true).wp P Q a w :=
  wp_region_quiet (C := fun w' => ∃ p : BW w, w' = p.u) hm hB ⟨⟨_, k_drew (Below.refl _ _)⟩, rfl⟩ (by simpa using h)
theorem bw_of {P : Program} {f : FuncId} {args : Array Value} {w : World} {p : BW w} {v : Value} (h : Calls P f args p.u fun e w' => e = .returned v ∧ Below p.u.heap.size p.u w') :
    Calls P f args p.u fun e w'' => e = .returned v ∧ ∃ p : BW w, w'' = p.u :=
  h.mono fun _ _ ⟨he, hb⟩ => ⟨he, ⟨_, k_trans p.h hb⟩, rfl⟩
theorem bw_same {P : Program} {f : FuncId} {args : Array Value} {w : World} {p : BW w} {v : Value} (h : Calls P f args p.u fun e w' => e = .returned v ∧ w' = p.u) :
    Calls P f args p.u fun e w'' => e = .returned v ∧ ∃ p : BW w, w'' = p.u :=
  h.mono fun _ _ ⟨he, hb⟩ => ⟨he, p, hb⟩
theorem bw_cell {w : World} {a : Addr} {v : Value} (hb : a.block < w.heap.size) (h : w.cell? a = some v) (p : BW w) : p.u.cell? a = some v := (p.h.cell hb).trans h
end Go.Proofs.Ytfkkhfiiokhnaag
