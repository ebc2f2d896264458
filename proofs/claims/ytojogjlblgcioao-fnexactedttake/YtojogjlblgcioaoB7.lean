/-
  PROVED HERE: what the laws' own markTblColS, markTblRowS and markTblTable answer: a table that owns its memory is marked with numbers, one behind the other; what lies ahead of its memory or behind it is not turned. Also: what the laws' own markTblRowS and markTblTable answer: a table that owns its memory is marked with numbers, one behind the other; what lies ahead of its memory or behind it is not turned. Also: numbers between two others, as a Bool.
-/
import Derived.Test.YtojogjlblgcioaoB6
import Derived.Deep.Cut
import Derived.Test.YtojogjlblgcioaoRows
import Derived.WalkKit
import Derived.ProofKit
import Derived.WalkLawsBesides
import Derived.WalkSpells
import Derived.Below
namespace Go.Proofs.Ytojogjlblgcioao
open Go.RowKit

theorem grown_out {w w' : World} {r : Option Nat} {B D : Nat} (h : w.grownBy w' r) (hB : B ≤ w.heap.size) (hr : ∀ b, r = some b → B ≤ b ∧ b < D) : Out B D w w' :=
  ⟨⟨h.os, h.tape, h.output, h.size, fun k hk => h.block k (by omega) (fun e => by have := hr k e.symm; omega)⟩, fun k h1 h2 => h.block k h2 (fun e => by have := hr k e.symm; omega)⟩
theorem Out.trans {B D : Nat} {a b c : World} (h : Out B D a b) (k : Out B D b c) : Out B D a c :=
  ⟨h.below.trans k.below, fun i h1 h2 => (k.block i h1 (Nat.lt_of_lt_of_le h2 h.below.size)).trans (h.block i h1 h2)⟩
theorem Out.alloc {B D : Nat} {a w : World} (h : Out B D a w) (hB : B ≤ w.heap.size) (o : Obj) : Out B D a (w.alloc o) :=
  ⟨h.below.alloc hB o, fun k h1 h2 => (Below.heap_alloc _ _ _ (Nat.lt_of_lt_of_le h2 h.below.size)).trans (h.block k h1 h2)⟩
def mkCol (k : Nat) : Int × Int := ((k : Int), (k : Int) + 1)
def mkCols (n k : Nat) : List (Int × Int) := (List.range n).map fun i => mkCol (k + 2 * i)
theorem mkCols_len (n k : Nat) : (mkCols n k).length = n := by simp [mkCols]
theorem mkCols_get {n k i : Nat} (h : i < n) : (mkCols n k).getD i (0, 0) = mkCol (k + 2 * i) := by simp [mkCols, List.getD, h]
def ColArrF (arr : Array Value) (f : Nat → Int × Int) (k : Nat) : Prop := ∀ i, i < k → arr[i * 2]? = some (.int .i64 (f i).1) ∧ arr[i * 2 + 1]? = some (.int .i64 (f i).2)
theorem ColArrF.next {arr : Array Value} {f : Nat → Int × Int} {k n : Nat} (h : ColArrF arr f k) (hs : arr.size = n * 2) (hk : k < n) :
    ColArrF ((arr.setIfInBounds (k * 2) (.int .i64 (f k).1)).setIfInBounds (k * 2 + 1) (.int .i64 (f k).2)) f (k + 1) := by
  obtain ⟨h1, h2, h3⟩ := two_next hs hk (.int .i64 (f k).1) (.int .i64 (f k).2)
  intro i hi
  rcases Nat.lt_or_eq_of_le (Nat.lt_succ_iff.1 hi) with hlt | rfl
  · exact ⟨(h1 _ (by omega)).trans (h i hlt).1, (h1 _ (by omega)).trans (h i hlt).2⟩
  · exact ⟨h2, h3⟩
theorem own_colsT {arr : Array Value} {ps : List (Int × Int)} (hs : ps.length * 2 ≤ arr.size) (h : ColArrF arr (fun i => ps.getD i (0, 0)) ps.length) : arr.toList.take (ps.length * 2) = ps.flatMap colVs := by
  refine flat_take colVs 2 (fun _ => rfl) ps arr hs (fun i hi j hj => ?_)
  have e := h i hi
  dsimp only at e
  rw [getD_get (0, 0) hi] at e
  match j, hj with
  | 0, _ => exact e.1
  | 1, _ => exact e.2

set_option maxRecDepth 100000 in
set_option maxHeartbeats 2000000 in
theorem markTblColS_any (u : Value) (ps : List (Int × Int)) (k0 : Nat) (hb : k0 + 2 * ps.length ≤ 99999990) (B : Nat) (w : World) (h : OwnCol w B u ps) :
    Calls Try.prog 61 #[u, .int .i64 k0] w fun e w' => e = .returned (.int .i64 ((k0 + 2 * ps.length : Nat) : Int)) ∧ OwnCol w' B u (mkCols ps.length k0) ∧ w.grownBy w' u.ownBlock := by
  rcases h.2 with ⟨rfl, hn⟩ | ⟨g, cap, cur, rfl, hg, hc, h1, h2, h3, h4⟩
  · obtain rfl : ps = [] := List.length_eq_zero_iff.1 hn
    go_enter Try.func61, Try.ntmps61
    go_wp2_with fail
    go_loopw [1, 5] (fun q i W => q = .int .i64 k0 ∧ i = .int .i64 0 ∧ W = w) (fun _ _ _ => 0)
    case atStart => exact ⟨rfl, rfl, rfl⟩
    case round =>
      obtain ⟨rfl, rfl, rfl⟩ := hrel
      go_wp2
      go_ret
      exact ⟨rfl, ⟨rfl, .inl ⟨rfl, rfl⟩⟩, grown_refl _ _⟩
  · have HC := Hid.intro hc
    have hgl : g < w.heap.size := (Array.getElem?_eq_some_iff.1 hc).1
    clear h h4 hc
    generalize hN : ps.length = n at *
    clear hN
    have hcap : n * 2 ≤ cap * 2 := Nat.mul_le_mul_right 2 h1
    go_enter Try.func61, Try.ntmps61
    go_wp2_with fail
    go_loopw [1, 5] (fun q i W => ∃ (k b : Nat) (arr : Array Value), k ≤ n ∧ i = .int .i64 k ∧ q = .int .i64 b ∧ Hid (b = k0 + 2 * k) ∧ Hid (W.heap[g]? = some (.cells arr 120)) ∧ arr.size = cap * 2 ∧ Hid (ColArrF arr (fun i => mkCol (k0 + 2 * i)) k) ∧ Hid (w.grownBy W (some g))) (fun _ i _ => n - (intOf i).toNat)
    case atStart => exact ⟨0, k0, cur, Nat.zero_le _, rfl, rfl, rfl, HC, h3, fun i hi => absurd hi (Nat.not_lt_zero i), grown_refl _ _⟩
    case round =>
      obtain ⟨k, b, arr, hk, rfl, rfl, HE, HBk, hsz, HA, HG⟩ := hrel
      by_cases hlt : k < n
      · have hbb : b ≤ 99999988 := by rw [HE.out]; omega
        have hN := HA.out.next (n := cap) hsz (by omega)
        have hNe : mkCol (k0 + 2 * k) = ((b : Int), (b : Int) + 1) := by rw [← HE.out]; rfl
        rw [hNe] at hN
        have HN := Hid.intro hN
        unfold maxLen at h2
        obtain ⟨y0, q0⟩ := someB (p := k * 2) HBk.out (by omega)
        obtain ⟨y1, q1⟩ := someB (p := k * 2 + 1) HBk.out (by omega)
        have fz : ∀ p, wr.frozen? ⟨g, p, none⟩ = false := fun p => freeB HBk.out
        have HE2 : Hid (b + 2 = k0 + 2 * (k + 1)) := by show _ = _; rw [HE.out]; omega
        clear HA HE hN hNe
        go_wp2
        go_roundw
        case rel => exact ⟨k + 1, b + 2, _, by omega, by go_num, by go_num, HE2, setB (setB HBk.out _) _, by rw [Array.size_setIfInBounds, Array.size_setIfInBounds]; exact hsz, HN, grown_set (grown_set HG.out rfl _) rfl _⟩
        case measure => simp [intOf]; omega
      · obtain rfl : k = n := by omega
        have HE2 : Hid ((b : Int) = ((k0 + 2 * k : Nat) : Int)) := by show _ = _; rw [HE.out]
        clear HE
        go_wp2
        go_ret
        refine ⟨congrArg (fun x : Int => Ending.returned (Value.int .i64 x)) HE2.out, ?_, HG.out⟩
        have e := own_colsT (arr := arr) (ps := mkCols k k0) (by rw [mkCols_len]; omega) (fun i hi => by rw [mkCols_len] at hi; dsimp only; rw [mkCols_get hi]; exact HA.out i hi)
        rw [mkCols_len] at e
        exact ⟨by rw [flat_len colVs 2 (fun _ => rfl)], .inr ⟨g, cap, arr, by rw [mkCols_len], hg, HBk.out, by rw [mkCols_len]; exact h1, h2, hsz, by rw [mkCols_len]; exact e⟩⟩

/-- which number a row's marks begin with -/
def kAt (rs : List R) (k : Nat) : Nat → Nat
  | 0 => k
  | i + 1 => kAt rs k i + 11 * (rs.getD i dR).cells.length + 1
def mkR (k : Nat) (r : R) : R := ⟨mkCs r.cells.length k, decide ((k + 11 * r.cells.length) % 3 = 0)⟩
def dU : Value × R := (.slice none 0 0, dR)
/-- the first i of rows marked -/
def mkU (ur : List (Value × R)) (k : Nat) : Nat → List (Value × R)
  | 0 => ur
  | i + 1 => (mkU ur k i).set i ((ur.getD i dU).1, mkR (kAt (ur.map (·.2)) k i) (ur.getD i dU).2)
theorem mkU_len (ur : List (Value × R)) (k : Nat) : ∀ i, (mkU ur k i).length = ur.length
  | 0 => rfl
  | i + 1 => by rw [mkU, List.length_set, mkU_len ur k i]
theorem mkU_old (ur : List (Value × R)) (k : Nat) : ∀ i j, i ≤ j → (mkU ur k i)[j]? = ur[j]?
  | 0, _, _ => rfl
  | i + 1, j, h => by rw [mkU, List.getElem?_set_ne (by omega), mkU_old ur k i j (by omega)]
theorem mkU_new (ur : List (Value × R)) (k : Nat) : ∀ i j, j < i → j < ur.length → (mkU ur k i)[j]? = some ((ur.getD j dU).1, mkR (kAt (ur.map (·.2)) k j) (ur.getD j dU).2)
  | 0, _, h, _ => absurd h (Nat.not_lt_zero _)
  | i + 1, j, h, hj => by
    rw [mkU]
    rcases (by omega : j < i ∨ j = i) with hlt | rfl
    · rw [List.getElem?_set_ne (by omega), mkU_new ur k i j hlt hj]
    · rw [List.getElem?_set_self (by rw [mkU_len]; exact hj)]
theorem kAt_mono (rs : List R) (k : Nat) : ∀ i j, i ≤ j → kAt rs k i ≤ kAt rs k j := by
  intro i j h
  induction j with
  | zero => obtain rfl : i = 0 := by omega
            exact Nat.le_refl _
  | succ j ih =>
    rcases (by omega : i ≤ j ∨ i = j + 1) with hl | rfl
    · have := ih hl; show _ ≤ kAt rs k j + _ + 1; omega
    · exact Nat.le_refl _
/-- one row of a table that is owned: its cells marked, and whether it is whole -/
theorem OwnR.mark {w w1 : World} {base : Nat} {v : Value} {ur : List (Value × R)} (h : OwnR w base v ur) {i g cap : Nat} (hv : v = .slice (some ⟨g, 0, none⟩) ur.length cap) {p : Value × R} (hi : ur[i]? = some p) {r : R} (hc : OwnC w1 base p.1 r.cells) (k : w.grownBy w1 p.1.ownBlock) :
    OwnR (w1.setCell ⟨g, i * 2 + 1, none⟩ (.bool r.whole)) base v (ur.set i (p.1, r)) := by
  have hil : i < ur.length := (List.getElem?_eq_some_iff.1 hi).1
  have hpm : p ∈ ur := List.mem_of_getElem? hi
  have hne : v.ownBlock = none ∨ v.ownBlock ≠ p.1.ownBlock := row_ne h.own (h.cells p hpm) (by decide)
  have hvg : v.ownBlock = some g := by rw [hv]; rfl
  have K1 : Off 0 none p.1.ownBlock w w1 := Off.grown k
  have h1 := row_off h.own K1 (Nat.zero_le _) (.inr (by rw [hvg]; simp)) hne
  have hS : Off 0 (some g) none w1 (w1.setCell ⟨g, i * 2 + 1, none⟩ (.bool r.whole)) := Off.set w1 ⟨g, i * 2 + 1, none⟩ rfl _
  have hcw : OwnC (w1.setCell ⟨g, i * 2 + 1, none⟩ (.bool r.whole)) base p.1 r.cells := by
    refine row_off hc hS (Nat.zero_le _) ?_ ?_
    · rcases row_ne hc h1 (by decide) with e | e
      · exact .inl e
      · exact .inr (by rw [← hvg]; exact e)
    · rcases hb : p.1.ownBlock with _ | b
      · exact .inl rfl
      · exact .inr (by simp)
  refine ⟨?_, fun q hq => ?_, ?_⟩
  · rcases h1.2 with ⟨e, _⟩ | ⟨g', cap', cur, e, hg', hcur, a1, a2, a3, a4⟩
    · rw [hv] at e; simp at e
    · rw [hv] at e
      simp only [Value.slice.injEq, Option.some.injEq, Addr.mk.injEq, and_true, true_and] at e
      obtain ⟨rfl, rfl⟩ := e
      refine ⟨by rw [flat_len rowVs 2 (fun _ => rfl)], .inr ⟨g, cap, cur.setIfInBounds (i * 2 + 1) (.bool r.whole), by rw [List.length_set]; exact hv, hg', setB hcur _, by rw [List.length_set]; exact a1, a2, by rw [Array.size_setIfInBounds]; exact a3, ?_⟩⟩
      refine flat_take rowVs 2 (fun _ => rfl) (ur.set i (p.1, r)) (cur.setIfInBounds (i * 2 + 1) (.bool r.whole)) (by rw [List.length_set, Array.size_setIfInBounds, a3]; omega) (fun j hj0 m hm => ?_)
      have hj : j < ur.length := by rw [List.length_set] at hj0; exact hj0
      have hold : cur[j * 2 + m]? = (rowVs ur[j])[m]? := by
        have e := flat_get rowVs 2 (fun _ => rfl) ur j hj m hm
        rw [← a4, List.getElem?_take_of_lt (by omega), Array.getElem?_toList] at e
        exact e
      by_cases hji : j = i
      · subst hji
        have ep : ur[j] = p := by rw [List.getElem?_eq_getElem hj] at hi; exact Option.some.inj hi
        rw [List.getElem_set_self]
        match m, hm with
        | 0, _ =>
          rw [Array.getElem?_setIfInBounds_ne (by omega), hold, ep]
          rfl
        | 1, _ =>
          rw [Array.getElem?_setIfInBounds_self_of_lt (by rw [a3]; omega)]
          rfl
      · rw [List.getElem_set_ne (by omega), Array.getElem?_setIfInBounds_ne (by omega)]
        exact hold
  · obtain ⟨j, hj0, rfl⟩ := List.mem_iff_getElem.1 hq
    have hj : j < ur.length := by rw [List.length_set] at hj0; exact hj0
    by_cases hji : j = i
    · subst hji
      rw [List.getElem_set_self]
      exact hcw
    · rw [List.getElem_set_ne (by omega)]
      have hap : ur[j].1.ownBlock = none ∨ ur[j].1.ownBlock ≠ p.1.ownBlock := by
        have ep : ur[i] = p := by rw [List.getElem?_eq_getElem hil] at hi; exact Option.some.inj hi
        have hp := List.pairwise_iff_getElem.1 h.apart
        rcases Nat.lt_or_gt_of_ne hji with hl | hl
        · rw [← ep]; exact hp j i hj hil hl
        · have := hp i j hil hj hl
          rw [ep] at this
          rcases hb : ur[j].1.ownBlock with _ | b
          · exact .inl rfl
          · refine .inr (fun e => ?_)
            rcases this with e1 | e1
            · rw [e1] at e; cases e
            · exact e1 (e.symm.trans hb.symm)
      have c1 := row_off (h.cells _ (List.getElem_mem hj)) K1 (Nat.zero_le _) (by rcases hb : ur[j].1.ownBlock with _ | b; exact .inl rfl; exact .inr (by simp)) hap
      refine row_off c1 hS (Nat.zero_le _) ?_ (by rcases hb : ur[j].1.ownBlock with _ | b; exact .inl rfl; exact .inr (by simp))
      rcases row_ne c1 h1 (by decide) with e | e
      · exact .inl e
      · exact .inr (by rw [← hvg]; exact e)
  · rw [List.pairwise_iff_getElem]
    have hp := List.pairwise_iff_getElem.1 h.apart
    have hfst : ∀ j, (hj : j < ur.length) → ((ur.set i (p.1, r))[j]'(by rw [List.length_set]; exact hj)).1 = ur[j].1 := fun j hj => by
      by_cases hji : j = i
      · subst hji
        rw [List.getElem_set_self, show ur[j] = p by rw [List.getElem?_eq_getElem hj] at hi; exact Option.some.inj hi]
      · rw [List.getElem_set_ne (by omega)]
    intro a b ha0 hb0 hab
    have ha : a < ur.length := by rw [List.length_set] at ha0; exact ha0
    have hb : b < ur.length := by rw [List.length_set] at hb0; exact hb0
    rw [hfst a ha, hfst b hb]
    exact hp a b ha hb hab
end Go.Proofs.Ytojogjlblgcioao
namespace Go.Proofs.Ytojogjlblgcioao
open Go.RowKit

theorem map_snd_get {ur : List (Value × R)} {i : Nat} {p : Value × R} (h : ur[i]? = some p) : (ur.map (·.2)).getD i dR = p.2 := by simp [List.getD, h]
theorem own_get {w : World} {base : Nat} {v : Value} {ur : List (Value × R)} (h : OwnR w base v ur) {i : Nat} {p : Value × R} (hi : ur[i]? = some p) : ∃ g cap cur, v = .slice (some ⟨g, 0, none⟩) ur.length cap ∧ ur.length ≤ cap ∧ cap ≤ maxLen ∧ g < w.heap.size ∧ base ≤ g ∧ w.heap[g]? = some (.cells cur 88) ∧ cur.size = cap * 2 ∧ cur[i * 2]? = some p.1 ∧ cur[i * 2 + 1]? = some (.bool p.2.whole) := by
  have hil : i < ur.length := (List.getElem?_eq_some_iff.1 hi).1
  have ep : ur[i] = p := by rw [List.getElem?_eq_getElem hil] at hi; exact Option.some.inj hi
  rcases h.own.2 with ⟨_, e⟩ | ⟨g, cap, cur, e, hg, hc, a1, a2, a3, a4⟩
  · omega
  · have hold : ∀ m, m < 2 → cur[i * 2 + m]? = (rowVs p)[m]? := fun m hm => by
      have e := flat_get rowVs 2 (fun _ => rfl) ur i hil m hm
      rw [← a4, List.getElem?_take_of_lt (by omega), Array.getElem?_toList, ep] at e
      exact e
    exact ⟨g, cap, cur, e, a1, a2, (Array.getElem?_eq_some_iff.1 hc).1, hg, hc, a3, hold 0 (by omega), hold 1 (by omega)⟩

/-- what is no row and no cell stays -/
def Kty (w w' : World) : Prop := ∀ (j : Nat) (cur : Array Value) (ty : TypeId), ty ≠ 88 → ty ≠ 62 → w.heap[j]? = some (.cells cur ty) → w'.heap[j]? = some (.cells cur ty)
theorem Kty.refl (w : World) : Kty w w := fun _ _ _ _ _ h => h
theorem Kty.trans {a b c : World} (h : Kty a b) (k : Kty b c) : Kty a c := fun j cur ty h1 h2 h3 => k j cur ty h1 h2 (h j cur ty h1 h2 h3)
theorem Kty.cells {w w' : World} {B m : Nat} {u : Value} {xs : List Value} (h : w.ownsRow B 62 11 u m xs) (k : w.grownBy w' u.ownBlock) : Kty w w' := fun j cur ty _ h2 h3 => by
  refine (k.block j (Array.getElem?_eq_some_iff.1 h3).1 (fun e => ?_)).trans h3
  rcases row_ne_block h h3 (fun e => h2 e.symm) with h4 | h4
  · rw [h4] at e; cases e
  · exact h4 e.symm
theorem Kty.set {w : World} {g o : Nat} {arr : Array Value} (h : w.heap[g]? = some (.cells arr 88)) (v : Value) : Kty w (w.setCell ⟨g, o, none⟩ v) := fun j cur ty h1 _ h3 => by
  refine (Below.heap_setCell _ _ _ _ (fun e => ?_)).trans h3
  subst e
  rw [h3] at h
  simp at h
  exact h1 h.2
set_option maxRecDepth 100000 in
set_option maxHeartbeats 2000000 in
theorem markTblRowS_any (v : Value) (ur : List (Value × R)) (k0 : Nat) (h0 : 0 < k0) (hb : kAt (ur.map (·.2)) k0 ur.length ≤ 99999990) (B D : Nat) (w : World) (h : OwnR w B v ur) (hvD : ∀ b, v.ownBlock = some b → b < D) (hD : ∀ p ∈ ur, ∀ b, p.1.ownBlock = some b → b < D) :
    Calls Try.prog 62 #[v, .int .i64 k0] w fun e w' => e = .returned (.int .i64 ((kAt (ur.map (·.2)) k0 ur.length : Nat) : Int)) ∧ OwnR w' B v (mkU ur k0 ur.length) ∧ Out B D w w' ∧ Kty w w' := by
  obtain ⟨a, cap, hv, hlen⟩ := row_form h.own
  subst hv
  have HO := Hid.intro h
  have HbM := Hid.intro hb
  clear h hb
  unfold maxLen at hlen
  go_enter Try.func62, Try.ntmps62
  go_wp2_with fail
  go_loopw [1, 5] (fun q i W => ∃ (k b : Nat), k ≤ ur.length ∧ i = .int .i64 k ∧ q = .int .i64 b ∧ Hid (b = kAt (ur.map (·.2)) k0 k) ∧ Hid (OwnR W B (.slice a ur.length cap) (mkU ur k0 k)) ∧ Hid (Out B D w W) ∧ Hid (Kty w W)) (fun _ i _ => ur.length - (intOf i).toNat)
  case atStart => exact ⟨0, k0, Nat.zero_le _, rfl, rfl, rfl, HO, Out.refl _ _ _, Kty.refl _⟩
  case round =>
    obtain ⟨k, b, hk, rfl, rfl, HE, HR, HG, HT⟩ := hrel
    by_cases hlt : k < ur.length
    · have hge : ur[k]? = some ur[k] := List.getElem?_eq_getElem hlt
      have hgM : (mkU ur k0 k)[k]? = some ur[k] := (mkU_old ur k0 k k (Nat.le_refl _)).trans hge
      have hpD := hD ur[k] (List.getElem_mem hlt)
      obtain ⟨g, cap', cur, e', hc1, hc2, hgl, hgB, hcur, hsz, hx0, hx1⟩ := own_get HR.out hgM
      rw [mkU_len] at e' hc1
      simp only [Value.slice.injEq, true_and] at e'
      obtain ⟨rfl, rfl⟩ := e'
      have hC := HR.out.cells ur[k] (List.mem_of_getElem? hgM)
      have hkn : kAt (ur.map (·.2)) k0 (k + 1) = b + 11 * ur[k].2.cells.length + 1 := by
        rw [kAt, map_snd_get hge, HE.out]
      have hkm := kAt_mono (ur.map (·.2)) k0 (k + 1) ur.length hlt
      have hk0 := kAt_mono (ur.map (·.2)) k0 0 k (Nat.zero_le _)
      rw [hkn] at hkm
      rw [← HE.out] at hk0
      have hb2 : b + 11 * ur[k].2.cells.length + 1 ≤ 99999990 := Nat.le_trans hkm HbM.out
      have hb0 : 0 < b := Nat.lt_of_lt_of_le h0 hk0
      have HN : Hid (mkU ur k0 (k + 1) = (mkU ur k0 k).set k (ur[k].1, ⟨mkCs ur[k].2.cells.length b, decide ((b + 11 * ur[k].2.cells.length) % 3 = 0)⟩)) := by
        show _ = _
        rw [mkU, show ur.getD k dU = ur[k] by simp [List.getD, hlt], ← HE.out]
        rfl
      have HM := Hid.intro (markTblCellS_any ur[k].1 ur[k].2.cells b hb0 (by omega) B wr hC)
      have HEn : Hid (b + 11 * ur[k].2.cells.length + 1 = kAt (ur.map (·.2)) k0 (k + 1)) := hkn.symm
      have hlc : ur[k].2.cells.length ≤ 9999999 := by omega
      have HgM := Hid.intro hgM
      clear hge hgM hkn hkm hk0 HE hC
      generalize ur[k] = p at HN HM HEn hb2 hx0 hx1 hpD HgM hlc
      generalize hmc : p.2.cells.length = n at HN HM HEn hb2 hlc
      have Hmc := Hid.intro hmc
      clear hmc
      have HBsz : Hid (B ≤ wr.heap.size) := Nat.le_trans hgB (Nat.le_of_lt hgl)
      have hg1 : g < D := hvD g rfl
      have L0 := (cellB hcur).trans hx0
      obtain ⟨pa, pcap, hpf, _⟩ := row_form (HR.out.cells p (List.mem_of_getElem? HgM.out))
      rw [hpf] at L0
      have HM' := HM
      rw [hpf] at HM'
      have Hpf := Hid.intro hpf
      have Hcur := Hid.intro hcur
      have Hne := Hid.intro (row_ne_block (HR.out.cells p (List.mem_of_getElem? HgM.out)) hcur (by decide))
      clear hcur hx0 HM hpf
      go_wp2_with fail
      refine HM'.out.mono ?_
      rintro e w1 ⟨rfl, hC1, hG1⟩
      have B1 : w1.heap[g]? = some (.cells cur 88) := (hG1.block g hgl (fun e => by
        have := Hne.out
        rw [Hpf.out] at this
        rcases this with h | h
        · rw [h] at e; cases e
        · exact h e.symm)).trans Hcur.out
      obtain ⟨y1, q1⟩ := someB (p := k * 2 + 1) B1 (by omega)
      have fz : ∀ p, w1.frozen? ⟨g, p, none⟩ = false := fun p => freeB B1
      have hG1' : wr.grownBy w1 p.1.ownBlock := by rw [Hpf.out]; exact hG1
      have hC1' : OwnC w1 B p.1 (mkCs n b) := by rw [Hpf.out]; exact hC1
      have HR1 := Hid.intro (HR.out.mark (g := g) (cap := cap) (by rw [mkU_len]) HgM.out (r := ⟨mkCs n b, decide ((b + 11 * n) % 3 = 0)⟩) hC1' hG1')
      have hO1 : Out B D wr w1 := grown_out hG1' HBsz.out (fun b' e => ⟨(row_lt hC1' e).1, hpD b' e⟩)
      have HG1 := Hid.intro ((HG.out.trans hO1).set (p := ⟨g, k * 2 + 1, none⟩) hgB hg1 (.bool (decide ((b + 11 * n) % 3 = 0))))
      have HT1 := Hid.intro ((HT.out.trans (Kty.cells (HR.out.cells p (List.mem_of_getElem? HgM.out)) hG1')).trans (Kty.set (o := k * 2 + 1) B1 (.bool (decide ((b + 11 * n) % 3 = 0)))))
      have hdec : (((b : Int) + 11 * (n : Int)) % 3 == 0) = decide ((b + 11 * n) % 3 = 0) := by
        rw [Bool.eq_iff_iff]; simp; omega
      have hdec2 : decide (((b : Int) + 11 * (n : Int)) % 3 = 0) = decide ((b + 11 * n) % 3 = 0) := by
        rw [Bool.eq_iff_iff]; simp; omega
      generalize decide ((b + 11 * n) % 3 = 0) = bb at HR1 HG1 HT1 hdec hdec2 HN
      clear hG1 hC1 hG1' hC1' hO1 B1 HR HG L0 HM' Hcur
      go_wp2
      go_roundw
      case rel => exact ⟨k + 1, b + 11 * n + 1, by omega, by go_num, by go_num, HEn, by rw [HN.out]; exact HR1, HG1, HT1⟩
      case measure => simp [intOf]; omega
    · obtain rfl : k = ur.length := by omega
      have HE2 : Hid ((b : Int) = ((kAt (ur.map (·.2)) k0 ur.length : Nat) : Int)) := by show _ = _; rw [HE.out]
      clear HE
      go_wp2
      go_ret
      exact ⟨congrArg (fun x : Int => Ending.returned (Value.int .i64 x)) HE2.out, HR.out, HG.out, HT.out⟩

/-- a table of one's own whose blocks lie ahead of D -/
def OwnD (w : World) (B D : Nat) (vc vr : Value) (cols : List (Int × Int)) (ur : List (Value × R)) : Prop := OwnCol w B vc cols ∧ OwnR w B vr ur ∧ (∀ b, vc.ownBlock = some b → b < D) ∧ (∀ b, vr.ownBlock = some b → b < D) ∧ ∀ p ∈ ur, ∀ b, p.1.ownBlock = some b → b < D
theorem OwnD.of {w : World} {B : Nat} {vc vr : Value} {cols : List (Int × Int)} {ur : List (Value × R)} (h1 : OwnCol w B vc cols) (h2 : OwnR w B vr ur) : OwnD w B w.heap.size vc vr cols ur :=
  ⟨h1, h2, fun _ e => (row_lt h1 e).2, fun _ e => (row_lt h2.own e).2, fun p hp _ e => (row_lt (h2.cells p hp) e).2⟩
theorem OwnD.out {w w' : World} {B D B' D' : Nat} {vc vr : Value} {cols : List (Int × Int)} {ur : List (Value × R)} (h : OwnD w B D vc vr cols ur) (k : Out B' D' w w') (hd : D ≤ B' ∨ D' ≤ B) : OwnD w' B D vc vr cols ur := by
  obtain ⟨h1, h2, h3, h4, h5⟩ := h
  have key : ∀ {e : TypeId} {sz : Nat} {v : Value} {m : Nat} {xs : List Value}, w.ownsRow B e sz v m xs → (∀ b, v.ownBlock = some b → b < D) → w'.ownsRow B e sz v m xs := fun h hv => by
    refine ⟨h.1, h.2.elim Or.inl (fun ⟨g, cap, cur, e, hg, hc, q⟩ => Or.inr ⟨g, cap, cur, e, hg, ?_, q⟩)⟩
    have hgD : g < D := hv g (by rw [e]; rfl)
    refine Eq.trans ?_ hc
    rcases hd with hd | hd
    · exact k.below.block g (by omega)
    · exact k.block g (by omega) (Array.getElem?_eq_some_iff.1 hc).1
  exact ⟨key h1 h3, ⟨key h2.own h4, fun p hp => key (h2.cells p hp) (h5 p hp), h2.apart⟩, h3, h4, h5⟩
theorem OwnD.kept {w w' : World} {B D : Nat} {vc vr : Value} {cols : List (Int × Int)} {ur : List (Value × R)} (h : OwnD w B D vc vr cols ur) (k : Below w.heap.size w w') : OwnD w' B D vc vr cols ur := by
  have key : ∀ {e : TypeId} {sz : Nat} {v : Value} {m : Nat} {xs : List Value}, w.ownsRow B e sz v m xs → w'.ownsRow B e sz v m xs := fun h =>
    ⟨h.1, h.2.elim Or.inl (fun ⟨g, cap, cur, e, hg, hc, q⟩ => Or.inr ⟨g, cap, cur, e, hg, (k.block g (Array.getElem?_eq_some_iff.1 hc).1).trans hc, q⟩)⟩
  exact ⟨key h.1, ⟨key h.2.1.own, fun p hp => key (h.2.1.cells p hp), h.2.1.apart⟩, h.2.2⟩
/-- the number behind a table's last mark -/
def kEnd (cols : List (Int × Int)) (ur : List (Value × R)) : Nat := kAt (ur.map (·.2)) (1 + 2 * cols.length) ur.length
theorem mkU_fst (ur : List (Value × R)) (k i : Nat) : ∀ p ∈ mkU ur k i, ∃ q ∈ ur, q.1 = p.1 := by
  intro p hp
  obtain ⟨j, hj, rfl⟩ := List.mem_iff_getElem.1 hp
  have hj' : j < ur.length := by rw [mkU_len] at hj; exact hj
  rcases Nat.lt_or_ge j i with hl | hl
  · have e := mkU_new ur k i j hl hj'
    rw [List.getElem?_eq_getElem hj] at e
    refine ⟨ur[j], List.getElem_mem hj', ?_⟩
    rw [Option.some.inj e, getD_get dU hj']
  · have e := mkU_old ur k i j hl
    rw [List.getElem?_eq_getElem hj, List.getElem?_eq_getElem hj'] at e
    exact ⟨ur[j], List.getElem_mem hj', by rw [Option.some.inj e]⟩

set_option maxRecDepth 100000 in
set_option maxHeartbeats 2000000 in
theorem markTblTable_any (a1 a2 : Option Addr) (c1 c2 : Nat) (hd ft gp : Value) (cols : List (Int × Int)) (ur : List (Value × R)) (hb : kEnd cols ur ≤ 99999990) (B D : Nat) (w : World) (h : OwnD w B D (.slice a1 cols.length c1) (.slice a2 ur.length c2) cols ur) (hDw : D ≤ w.heap.size) (hBD : B ≤ D) :
    Calls Try.prog 27 #[.agg #[.slice a1 cols.length c1, hd, ft, .slice a2 ur.length c2, gp], .int .i64 1] w fun e w' => e = .returned (.int .i64 ((kEnd cols ur : Nat) : Int)) ∧ OwnD w' B D (.slice a1 cols.length c1) (.slice a2 ur.length c2) (mkCols cols.length 1) (mkU ur (1 + 2 * cols.length) ur.length) ∧ Out B D w w' := by
  have hX := newestB w (.cells #[.slice a1 cols.length c1, hd, ft, .slice a2 ur.length c2, gp] 56)
  have hO : Out B D w (w.alloc (.cells #[.slice a1 cols.length c1, hd, ft, .slice a2 ur.length c2, gp] 56)) := (Out.refl _ _ _).alloc (by omega) _
  have hK := k_alloc (Below.refl w.heap.size w) (.cells #[.slice a1 cols.length c1, hd, ft, .slice a2 ur.length c2, gp] 56)
  have hs0 : (w.alloc (.cells #[.slice a1 cols.length c1, hd, ft, .slice a2 ur.length c2, gp] 56)).heap.size = w.heap.size + 1 := by simp
  have hkm := kAt_mono (ur.map (·.2)) (1 + 2 * cols.length) 0 ur.length (Nat.zero_le _)
  have hkc : 1 + 2 * cols.length ≤ 99999990 := Nat.le_trans hkm hb
  have HD := Hid.intro h
  have HO := Hid.intro hO
  have HX := Hid.intro hX
  have HKb := Hid.intro hK
  clear h hO hkm hX
  go_enter Try.func27, Try.ntmps27
  go_upto_region 1 with fail
  generalize w.alloc (.cells #[.slice a1 cols.length c1, hd, ft, .slice a2 ur.length c2, gp] 56) = W0 at HO HX HKb hs0 hK ⊢
  have z0 := cellB (p := 0) HX.out
  have HDk := Hid.intro (HD.out.kept HKb.out)
  have HM := Hid.intro (markTblColS_any (.slice a1 cols.length c1) cols 1 (by omega) B W0 HDk.out.1)
  clear hK
  go_wp2_with fail
  refine HM.out.mono ?_
  rintro e w1 ⟨rfl, hC1, hG1⟩
  have hO1 : Out B D W0 w1 := grown_out hG1 (by omega) (fun b e => ⟨(row_lt hC1 e).1, HDk.out.2.2.1 b e⟩)
  have hX1 : w1.heap[w.heap.size]? = some (.cells #[.slice a1 cols.length c1, hd, ft, .slice a2 ur.length c2, gp] 56) := (hO1.block w.heap.size hDw (by omega)).trans HX.out
  have z3 := cellB (p := 3) hX1
  have hne : ∀ p ∈ ur, p.1.ownBlock = none ∨ p.1.ownBlock ≠ (Value.slice a1 cols.length c1).ownBlock := fun p hp => row_ne (HDk.out.2.1.cells p hp) HDk.out.1 (by decide)
  have hRne := row_ne HDk.out.2.1.own HDk.out.1 (by decide)
  have hR1 : OwnR w1 B (.slice a2 ur.length c2) ur := HDk.out.2.1.off (Off.grown (b1 := none) hG1 (n := 0)) (Nat.zero_le _) (by rcases hb : (Value.slice a2 ur.length c2).ownBlock with _ | b; exact .inl rfl; exact .inr (by simp)) hRne (fun p hp => ⟨by rcases hb : p.1.ownBlock with _ | b; exact .inl rfl; exact .inr (by simp), hne p hp⟩)
  have HM2 := Hid.intro (markTblRowS_any (.slice a2 ur.length c2) ur (1 + 2 * cols.length) (by omega) hb B D w1 hR1 HDk.out.2.2.2.1 HDk.out.2.2.2.2)
  have HC1 := Hid.intro hC1
  have HO1 := Hid.intro (HO.out.trans hO1)
  have HR1 := Hid.intro hR1
  clear hC1 hG1 hO1 hX1 hne hRne hR1 HM z0
  go_wp2_with fail
  refine HM2.out.mono ?_
  rintro e w2 ⟨rfl, hR2, hO2, hT2⟩
  have HC2 : Hid (OwnCol w2 B (.slice a1 cols.length c1) (mkCols cols.length 1)) := ⟨HC1.out.1, HC1.out.2.elim Or.inl (fun ⟨g, cap, cur, e, hg, hc, q⟩ => Or.inr ⟨g, cap, cur, e, hg, hT2 g cur _ (by decide) (by decide) hc, q⟩)⟩
  have HR2 := Hid.intro hR2
  have HO2 := Hid.intro (HO1.out.trans hO2)
  clear hR2 hO2 HM2 z3 hT2
  go_wp2
  go_ret
  exact ⟨rfl, ⟨HC2.out, HR2.out, HDk.out.2.2.1, HDk.out.2.2.2.1, fun p hp b e => by
    obtain ⟨q, hq, e'⟩ := mkU_fst _ _ _ p hp
    exact HDk.out.2.2.2.2 q hq b (by rw [e']; exact e)⟩, HO2.out⟩
end Go.Proofs.Ytojogjlblgcioao
namespace Go.Proofs.Ytojogjlblgcioao
open Go.RowKit

def inB (n lo hi : Int) : Bool := decide (lo ≤ n ∧ n ≤ hi)
theorem retB {a b : Bool} (h : a = b) : Ending.returned (.bool a) = .returned (.bool b) := by rw [h]
theorem inB_true {n lo hi : Int} (h1 : lo ≤ n) (h2 : n ≤ hi) : inB n lo hi = true := by simp [inB, h1, h2]
theorem inB_false {n lo hi : Int} (h : ¬ (lo ≤ n ∧ n ≤ hi)) : inB n lo hi = false := by simp only [inB, h, decide_false]
end Go.Proofs.Ytojogjlblgcioao
