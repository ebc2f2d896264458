/-
  PROVED HERE: what is due to each, in order, as the program's claimsOf lays it: a row of claims in memory of its own.
-/
import Derived.Test.YtgcobajekffmoacRep
import Derived.Test.YtgcobajekffmoacIntFns
import Derived.Test.YtgcobajekffmoacShrDueI
import Derived.Test.YtgcobajekffmoacSrtCl
namespace Go.Proofs.Ytgcobajekffmoac
open Go.RowKit Go.Shelf Go.Lib Go.Sort

/-- the weights that count: all 1, if all are 0 -/
def wts (l : List Int) : List Int := if l.sum = 0 then List.replicate l.length 1 else l
theorem wts_len (l : List Int) : (wts l).length = l.length := by unfold wts; split <;> simp
theorem sum_ones : ∀ n : Nat, (List.replicate n (1 : Int)).sum = n
  | 0 => rfl
  | n + 1 => by rw [List.replicate_succ, List.sum_cons, sum_ones n]; omega
theorem wts_wt {l : List Int} (h : l.all wtB = true) : (wts l).all wtB = true := by
  unfold wts
  split
  · rw [List.all_eq_true]; intro x hx; rw [(List.mem_replicate.1 hx).2]; rfl
  · exact h
theorem wts_pos {l : List Int} (h : l.all wtB = true) (h0 : 0 < l.length) : 0 < (wts l).sum := by
  unfold wts
  split
  · rw [sum_ones]; omega
  · have := (sum_bound h).1; omega
/-- what is due to the i-th -/
def cl (t : Int) (u : List Int) (i : Nat) : Cl := ⟨i, t * u.getD i 0 / u.sum, t * u.getD i 0 % u.sum⟩
def clL (t : Int) (u : List Int) : List Cl := (List.range u.length).map (cl t u)
theorem clL_len (t : Int) (u : List Int) : (clL t u).length = u.length := by simp [clL]
theorem clL_get {t : Int} {u : List Int} {i : Nat} (h : i < u.length) : (clL t u)[i]? = some (cl t u i) := by simp [clL, h]
theorem clA_get {t : Int} {u : List Int} {i : Nat} (h : i < u.length) : (clL t u).toArray[i]! = cl t u i := by
  rw [getElem!_def, List.getElem?_toArray, clL_get h]

def newCl (n : Nat) : Array Value := madeCells (Value.agg #[.int .i64 0, .int .i64 0, .int .i64 0]).cells (n * 3)
theorem newCl_size (n : Nat) : (newCl n).size = n * 3 := by rw [newCl, size_madeCells]
theorem infoCl : (Try.prog.info? 75).map (fun i => (i.zero, i.size, i.bytes)) = some (some (Value.agg #[.int .i64 0, .int .i64 0, .int .i64 0]), 3, 24) := by kernel_rfl
theorem makeCl (n : Nat) (hn : n ≤ 1048576) (u : World) : (Instr.makeSlice 72 (.int .i64 (n : Int)) (.int .i64 (n : Int))).run Try.prog u = .ok (.slice (some ⟨u.heap.size, 0, none⟩) n n) (u.alloc (.cells (newCl n) 75)) := by
  obtain ⟨i0, hi, hz0, hz1, hz2⟩ := info_parts infoCl
  have h := run_make (P := Try.prog) u 72 75 i0 _ Try.underlying72 hi hz0 .i64 .i64 (n : Int) (n : Int) (by omega) (Int.le_refl _) (by rw [hz2]; omega) (by omega)
  rw [hz1, Int.toNat_natCast] at h
  exact h
def ClArr (arr : Array Value) (L : Nat → Cl) (k : Nat) : Prop := ∀ i, i < k → arr[i * 3]? = some (.int .i64 (L i).p) ∧ arr[i * 3 + 1]? = some (.int .i64 (L i).w) ∧ arr[i * 3 + 2]? = some (.int .i64 (L i).o)
theorem ClArr.next {arr : Array Value} {L : Nat → Cl} {k n : Nat} (h : ClArr arr L k) (hs : arr.size = n * 3) (hk : k < n) :
    ClArr (((arr.setIfInBounds (k * 3) (.int .i64 (L k).p)).setIfInBounds (k * 3 + 1) (.int .i64 (L k).w)).setIfInBounds (k * 3 + 2) (.int .i64 (L k).o)) L (k + 1) := by
  have eq : ∀ (A : Array Value) (i : Nat) (v : Value), i < A.size → (A.setIfInBounds i v)[i]? = some v := fun A i v hi => by simp [hi]
  intro i hi
  rcases Nat.lt_or_eq_of_le (Nat.lt_succ_iff.1 hi) with hlt | rfl
  · obtain ⟨h1, h2, h3⟩ := h i hlt
    refine ⟨?_, ?_, ?_⟩
    · rw [Array.getElem?_setIfInBounds_ne (by omega), Array.getElem?_setIfInBounds_ne (by omega), Array.getElem?_setIfInBounds_ne (by omega)]; exact h1
    · rw [Array.getElem?_setIfInBounds_ne (by omega), Array.getElem?_setIfInBounds_ne (by omega), Array.getElem?_setIfInBounds_ne (by omega)]; exact h2
    · rw [Array.getElem?_setIfInBounds_ne (by omega), Array.getElem?_setIfInBounds_ne (by omega), Array.getElem?_setIfInBounds_ne (by omega)]; exact h3
  · refine ⟨?_, ?_, ?_⟩
    · rw [Array.getElem?_setIfInBounds_ne (by omega), Array.getElem?_setIfInBounds_ne (by omega)]; exact eq _ _ _ (by omega)
    · rw [Array.getElem?_setIfInBounds_ne (by omega)]; exact eq _ _ _ (by rw [Array.size_setIfInBounds]; omega)
    · exact eq _ _ _ (by rw [Array.size_setIfInBounds, Array.size_setIfInBounds]; omega)
theorem holds_of_arr {w : World} {g n : Nat} {arr : Array Value} {T : TypeId} {L : Nat → Cl} {d : Array Cl} (hg : w.heap[g]? = some (.cells arr T)) (ha : ClArr arr L n) (hd : d.size = n) (hL : ∀ i, i < n → d[i]! = L i) : HoldsK encC 3 w g 0 d := by
  intro j hj
  rw [size_flatK, hd] at hj
  have hq : j / 3 < n := by omega
  obtain ⟨h1, h2, h3⟩ := ha (j / 3) hq
  refine ⟨?_, freeB hg⟩
  rw [Nat.zero_add, cellB hg, get_flatK _ _ _ _ (by rw [hd]; exact hj), hL _ hq]
  show arr[j]? = some ((encC (L (j / 3)))[j % 3]!)
  rcases (by omega : j % 3 = 0 ∨ j % 3 = 1 ∨ j % 3 = 2) with e | e | e
  · rw [e]; rw [show j = j / 3 * 3 by omega]; rw [Nat.mul_div_cancel _ (by omega)]; exact h1
  · rw [e, show arr[j]? = arr[j / 3 * 3 + 1]? from by congr 1; omega]; exact h2
  · rw [e, show arr[j]? = arr[j / 3 * 3 + 2]? from by congr 1; omega]; exact h3

/-- the loop's end -/
theorem row_claims {w : World} {g : Nat} {arr : Array Value} {t : Int} {u : List Int} (hg : w.heap[g]? = some (.cells arr 75)) (ha : ClArr arr (cl t u) u.length) : RowK encC 3 w g 0 (clL t u).toArray :=
  ⟨encC_len, encC_one, holds_of_arr hg ha (by simp [clL_len]) (fun _ hi => clA_get hi), (Array.getElem?_eq_some_iff.1 hg).1⟩
theorem rem_small {a s : Int} (hs : 0 < s) : 0 ≤ a % s ∧ a % s < s := ⟨Int.emod_nonneg _ (by omega), Int.emod_lt_of_pos _ hs⟩

set_option maxRecDepth 100000 in
set_option maxHeartbeats 4000000 in
theorem claimsOf_any (t : Int) (v : Value) (l : List Int) (ht : 0 ≤ t ∧ t ≤ 100000) (h0 : 0 < l.length) (hl : l.length ≤ 100) (hw : l.all wtB = true) (w : World) (h : IntsAt w v l) :
    Calls Try.prog 50 #[.int .i64 t, v] w fun e w' => ∃ g, e = .returned (.slice (some ⟨g, 0, none⟩) l.length l.length) ∧ w.heap.size ≤ g ∧ RowK encC 3 w' g 0 (clL t (wts l)).toArray ∧ Below w.heap.size w w' := by
  obtain ⟨a, cap, rfl, _⟩ := h.form
  have H := Hid.intro h
  clear h
  have HS := Hid.intro (fun W => implsumOf_any (.slice a l.length cap) l (by omega) hw W)
  have hmk := makeCl l.length (by omega)
  have hpos := wts_pos hw h0
  have hsb := sum_bound (wts_wt hw)
  rw [wts_len] at hsb
  have HWT := Hid.intro (wts_wt hw)
  have HLN := Hid.intro (wts_len l)
  by_cases hz : l.sum = 0
  · have hwt : wts l = List.replicate l.length 1 := by rw [wts, if_pos hz]
    have hsum : (wts l).sum = l.length := by rw [hwt, sum_ones]
    have HZ := Hid.intro hz
    have HSM := Hid.intro hsum
    have HU := Hid.intro hwt
    rw [hz] at HS
    rw [hsum] at hpos hsb
    generalize wts l = u at HWT HLN HSM HU ⊢
    clear hz hsum hwt hw
    go_enter Try.func50, Try.ntmps50
    go_wp2_with fail
    refine (HS.out _ H.out).mono ?_
    rintro e w1 ⟨rfl, e1⟩
    cases e1
    go_wp2_with fail
    refine (repeat_any w.heap.size l.length h0 hl _ (by simp) (by simp)).mono ?_
    rintro e w2 ⟨a2, cap2, rfl, hr2, hb2⟩
    have R2 : Hid (IntsAt w2 (.slice a2 l.length cap2) u) := by
      have := hr2.at
      rw [← HU.out] at this
      exact this
    have K2 := Hid.intro (k_trans (k_alloc (Below.refl w.heap.size w) (.cells #[.int .i64 1] 3)) hb2)
    clear hr2 hb2
    go_wp2_with fail
    clear hmk
    have hw2 := K2.out.size
    go_loopw [24] (fun i W => ∃ (k : Nat) (arr : Array Value), k ≤ l.length ∧ i = .int .i64 k ∧ Hid (W.heap[w2.heap.size]? = some (.cells arr 75)) ∧ arr.size = l.length * 3 ∧ Hid (ClArr arr (cl t u) k) ∧ Hid (Below w2.heap.size w2 W)) (fun i _ => l.length - (intOf i).toNat)
    case atStart => exact ⟨0, newCl l.length, Nat.zero_le _, rfl, newestB _ _, newCl_size _, fun i hi => absurd hi (Nat.not_lt_zero _), k_alloc (Below.refl _ _) _⟩
    case round =>
      obtain ⟨k, arr, hk, rfl, HBk, hsz, HA, HB⟩ := hrel
      by_cases hlt : k < l.length
      · have hku : k < u.length := by rw [HLN.out]; exact hlt
        obtain ⟨b, off, cap', e', hc1, hc2, hbl, hx⟩ := (R2.out.kept HB.out).get hku
        rw [HLN.out] at e' hc1
        simp only [Value.slice.injEq, true_and] at e'
        obtain ⟨rfl, rfl⟩ := e'
        have hx0 := wt_get HWT.out hku
        have hm := mul_small ht hx0
        have HN := Hid.intro (HA.out.next (n := l.length) hsz hlt)
        have ecl : cl t u k = ⟨k, t * u.getD k 0 / l.length, t * u.getD k 0 % l.length⟩ := by rw [cl, HSM.out]
        rw [ecl] at HN
        generalize u.getD k 0 = x at hx hx0 hm HN
        clear ecl hku
        unfold maxLen at hc2
        obtain ⟨y0, q0⟩ := someB (p := k * 3) HBk.out (by omega)
        obtain ⟨y1, q1⟩ := someB (p := k * 3 + 1) HBk.out (by omega)
        obtain ⟨y2, q2⟩ := someB (p := k * 3 + 2) HBk.out (by omega)
        have fz : ∀ p, wr.frozen? ⟨w2.heap.size, p, none⟩ = false := fun p => freeB HBk.out
        have hdv := Int.ediv_nonneg hm.1 (show (0 : Int) ≤ (l.length : Int) by omega)
        have hdw := Int.le_trans (Int.ediv_le_self (l.length : Int) hm.1) hm.2
        have hrm := rem_small (a := t * x) (s := (l.length : Int)) (by omega)
        go_wp2_with fail
        go_region
        all_goals
          go_wp2
          go_roundw
          case rel => exact ⟨k + 1, _, by omega, by go_num, setB (setB (setB HBk.out _) _) _, by rw [Array.size_setIfInBounds, Array.size_setIfInBounds, Array.size_setIfInBounds]; exact hsz, HN, k_set (k_set (k_set (k_drew HB.out) (Nat.le_refl _) _) (Nat.le_refl _) _) (Nat.le_refl _) _⟩
          case measure => simp [intOf]; omega
      · obtain rfl : k = l.length := by omega
        go_wp2
        go_ret
        exact ⟨_, rfl, hw2, row_claims HBk.out (by rw [HLN.out]; exact HA.out), k_trans K2.out HB.out⟩
  · have hwt : wts l = l := by rw [wts, if_neg hz]
    rw [hwt] at hpos hsb ⊢
    have hzb : (l.sum == 0) = false := by simpa using hz
    have HG := Hid.intro (fun i hi => wt_get (i := i) hw hi)
    have HSM : Hid (∀ k, cl t l k = ⟨k, t * l.getD k 0 / l.sum, t * l.getD k 0 % l.sum⟩) := fun _ => rfl
    generalize l.sum = s at HS HSM hpos hsb hzb hz
    clear HWT HLN hwt hw
    go_enter Try.func50, Try.ntmps50
    go_wp2_with fail
    refine (HS.out _ H.out).mono ?_
    rintro e w1 ⟨rfl, e1⟩
    cases e1
    go_wp2_with fail
    clear hmk
    go_loopw [24] (fun i W => ∃ (k : Nat) (arr : Array Value), k ≤ l.length ∧ i = .int .i64 k ∧ Hid (W.heap[w.heap.size]? = some (.cells arr 75)) ∧ arr.size = l.length * 3 ∧ Hid (ClArr arr (cl t l) k) ∧ Hid (Below w.heap.size w W)) (fun i _ => l.length - (intOf i).toNat)
    case atStart => exact ⟨0, newCl l.length, Nat.zero_le _, rfl, newestB _ _, newCl_size _, fun i hi => absurd hi (Nat.not_lt_zero _), k_alloc (Below.refl _ _) _⟩
    case round =>
      obtain ⟨k, arr, hk, rfl, HBk, hsz, HA, HB⟩ := hrel
      by_cases hlt : k < l.length
      · obtain ⟨b, off, cap', e', hc1, hc2, hbl, hx⟩ := (H.out.kept HB.out).get hlt
        simp only [Value.slice.injEq, true_and] at e'
        obtain ⟨rfl, rfl⟩ := e'
        have hx0 := HG.out k hlt
        have hm := mul_small ht hx0
        have HN := Hid.intro (HA.out.next (n := l.length) hsz hlt)
        rw [HSM.out k] at HN
        generalize l.getD k 0 = x at hx hx0 hm HN
        unfold maxLen at hc2
        obtain ⟨y0, q0⟩ := someB (p := k * 3) HBk.out (by omega)
        obtain ⟨y1, q1⟩ := someB (p := k * 3 + 1) HBk.out (by omega)
        obtain ⟨y2, q2⟩ := someB (p := k * 3 + 2) HBk.out (by omega)
        have fz : ∀ p, wr.frozen? ⟨w.heap.size, p, none⟩ = false := fun p => freeB HBk.out
        have hdv := Int.ediv_nonneg hm.1 (show (0 : Int) ≤ s by omega)
        have hdw := Int.le_trans (Int.ediv_le_self s hm.1) hm.2
        have hrm := rem_small (a := t * x) (s := s) (by omega)
        go_wp2_with fail
        go_region
        all_goals
          go_wp2
          go_roundw
          case rel => exact ⟨k + 1, _, by omega, by go_num, setB (setB (setB HBk.out _) _) _, by rw [Array.size_setIfInBounds, Array.size_setIfInBounds, Array.size_setIfInBounds]; exact hsz, HN, k_set (k_set (k_set (k_drew HB.out) (Nat.le_refl _) _) (Nat.le_refl _) _) (Nat.le_refl _) _⟩
          case measure => simp [intOf]; omega
      · obtain rfl : k = l.length := by omega
        go_wp2
        go_ret
        exact ⟨_, rfl, Nat.le_refl _, row_claims HBk.out HA.out, HB.out⟩
end Go.Proofs.Ytgcobajekffmoac
