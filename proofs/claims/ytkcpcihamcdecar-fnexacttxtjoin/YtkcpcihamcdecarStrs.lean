/-
  PROVED HERE: lists of texts in memory, and what the laws' own szStringS, toStringS and eqStringS and the model's TxtJoin answer of them; nothing that was in memory is turned.
-/
import Derived.Test.YtkcpcihamcdecarTblTo
import Derived.Test.YtkcpcihamcdecarTblSz
import Derived.Deep.QuietTactic
import Derived.BigQuiet
namespace Go.Proofs.Ytkcpcihamcdecar
open Go.RowKit

def dS : ByteArray := ByteArray.empty
def StrsAt (w : World) (z : Nat) (v : Value) (ss : List ByteArray) : Prop := At w z v ss.length 1 (fun i b o => w.cell? ⟨b, o, none⟩ = some (.string (ss.getD i dS)) ∧ (ss.getD i dS).size ≤ maxLen)
theorem StrsAt.since {w w' : World} {z : Nat} {v : Value} {ss : List ByteArray} (h : StrsAt w z v ss) (k : Since z w w') : StrsAt w' z v ss :=
  At.mono h k.size (Nat.le_refl _) (fun _ _ _ _ hb hz he => ⟨(k.cell hz hb _).trans he.1, he.2⟩)
theorem StrsAt.kept {w w' : World} {z : Nat} {v : Value} {ss : List ByteArray} (h : StrsAt w z v ss) (k : Below w.heap.size w w') : StrsAt w' z v ss := h.since (.of_below k)
def lnTo (ss : List ByteArray) (k : Nat) : Nat := ((ss.take k).map (fun x => x.size)).sum
theorem lnTo_succ {ss : List ByteArray} {k : Nat} (h : k < ss.length) : lnTo ss (k + 1) = lnTo ss k + (ss.getD k dS).size := by
  have e : ss.getD k dS = ss[k] := by simp [List.getD, h]
  rw [e]
  exact sum_take_succ (fun x : ByteArray => x.size) ss k h
theorem lnTo_le (ss : List ByteArray) (k : Nat) : lnTo ss k ≤ lnTo ss ss.length := by
  have := sum_take_le (fun x : ByteArray => x.size) ss k
  unfold lnTo
  rw [List.take_length]
  exact this
def totS (ss : List ByteArray) : Nat := ss.length + lnTo ss ss.length

set_option maxRecDepth 100000 in
set_option maxHeartbeats 1000000 in
theorem szStringS_any (v : Value) (ss : List ByteArray) (n : Int) (h0 : 0 ≤ n) (hn : n ≤ 1048576) (w : World) {z : Nat} (h : StrsAt w z v ss) :
    Calls Try.prog 16 #[v, .int .i64 n] w fun e w' => e = .returned (.int .i64 (leftOf n (totS ss))) ∧ w' = w := by
  obtain ⟨a, cap, rfl, hlen⟩ := At.form h
  unfold maxLen at hlen
  have H := Hid.intro h
  clear h
  by_cases hl : (ss.length : Int) ≤ n
  · have hl' : ¬ n - (ss.length : Int) < 0 := by omega
    go_enter Try.func16, Try.ntmps16
    go_wp2_with fail
    go_loop [1, 5] (fun l i => ∃ k : Nat, k ≤ ss.length ∧ i = .int .i64 k ∧ l = .int .i64 (n - ss.length - lnTo ss k) ∧ (lnTo ss k : Int) ≤ n - ss.length) (fun _ i => ss.length - (intOf i).toNat)
    case atStart => exact ⟨0, Nat.zero_le _, rfl, by simp [lnTo], by simp [lnTo]; omega⟩
    case round =>
      obtain ⟨k, hk, rfl, rfl, hle⟩ := hrel
      by_cases hlt : k < ss.length
      · obtain ⟨b, off, cap', e', hc1, hc2, hbl, hx, hs⟩ := At.get H.out hlt
        rw [Nat.mul_one] at hx
        simp only [Value.slice.injEq, true_and] at e'
        obtain ⟨rfl, rfl⟩ := e'
        have HS := Hid.intro (lnTo_succ hlt)
        generalize ss.getD k dS = x at hx hs HS
        unfold maxLen at hc2 hs
        by_cases hy : (x.size : Int) ≤ n - ss.length - lnTo ss k
        · have hg : ¬ n - (ss.length : Int) - (lnTo ss k : Int) - (x.size : Int) < 0 := by omega
          go_wp2
          go_round
          case rel => exact ⟨k + 1, by omega, by go_num, by rw [HS.out]; go_num, by rw [HS.out]; omega⟩
          case measure => simp [intOf]; omega
        · have hg : n - (ss.length : Int) - (lnTo ss k : Int) - (x.size : Int) < 0 := by omega
          have HF : Hid (leftOf n (totS ss) = -1) := by
            have := lnTo_le ss (k + 1)
            show leftOf n (totS ss) = -1
            rw [leftOf, totS, if_neg (by rw [HS.out] at this; omega)]
          go_wp2
          go_ret
          exact ⟨by rw [HF.out]; rfl, rfl⟩
      · obtain rfl : k = ss.length := by omega
        have HF : Hid (leftOf n (totS ss) = n - ss.length - lnTo ss ss.length) := by
          show leftOf n (totS ss) = _
          rw [leftOf, totS, if_pos (by omega)]; omega
        go_wp2
        go_ret
        exact ⟨by rw [HF.out]; rfl, rfl⟩
  · have hl' : n - (ss.length : Int) < 0 := by omega
    have HF : Hid (leftOf n (totS ss) = -1) := by
      show leftOf n (totS ss) = -1
      rw [leftOf, totS, if_neg (by omega)]
    go_enter Try.func16, Try.ntmps16
    go_wp2
    go_ret
    exact ⟨by rw [HF.out]; rfl, rfl⟩

def newS (n : Nat) : Array Value := madeCells (Value.string ⟨#[]⟩).cells (n * 1)
theorem newS_size (n : Nat) : (newS n).size = n := by rw [newS, size_madeCells]; omega
theorem infoS : (Try.prog.info? 9).map (fun i => (i.zero, i.size, i.bytes)) = some (some (Value.string ⟨#[]⟩), 1, 16) := by kernel_rfl
theorem makeS (n : Nat) (hn : n ≤ 1048576) (u : World) : (Instr.makeSlice 22 (.int .i64 (n : Int)) (.int .i64 (n : Int))).run Try.prog u = .ok (.slice (some ⟨u.heap.size, 0, none⟩) n n) (u.alloc (.cells (newS n) 9)) := by
  obtain ⟨i0, hi, hz0, hz1, hz2⟩ := info_parts infoS
  have h := run_make (P := Try.prog) u 22 9 i0 _ Try.underlying22 hi hz0 .i64 .i64 (n : Int) (n : Int) (by omega) (Int.le_refl _) (by rw [hz2]; omega) (by omega)
  rw [hz1, Int.toNat_natCast] at h
  exact h
def StrArr (arr : Array Value) (ss : List ByteArray) (k : Nat) : Prop := ∀ i, i < k → arr[i]? = some (.string (ss.getD i dS))
theorem StrArr.next {arr : Array Value} {ss : List ByteArray} {k : Nat} (h : StrArr arr ss k) (hs : arr.size = ss.length) (hk : k < ss.length) : StrArr (arr.setIfInBounds k (.string (ss.getD k dS))) ss (k + 1) := by
  intro i hi
  rcases Nat.lt_or_eq_of_le (Nat.lt_succ_iff.1 hi) with hlt | rfl
  · rw [Array.getElem?_setIfInBounds_ne (by omega)]; exact h i hlt
  · have eq : ∀ (A : Array Value) (i : Nat) (v : Value), i < A.size → (A.setIfInBounds i v)[i]? = some v := fun A i v hi => by simp [hi]
    exact eq _ _ _ (by omega)

set_option maxRecDepth 100000 in
set_option maxHeartbeats 1000000 in
theorem toStringS_any (v : Value) (ss : List ByteArray) (hn : ss.length ≤ 1048576) (w : World) {z : Nat} (h : StrsAt w z v ss) :
    Calls Try.prog 18 #[v] w fun e w' => ∃ a cap, e = .returned (.slice a ss.length cap) ∧ StrsAt w' w.heap.size (.slice a ss.length cap) ss ∧ Below w.heap.size w w' := by
  obtain ⟨a, cap, rfl, hlen⟩ := At.form h
  have hmk := makeS ss.length hn
  have H := Hid.intro h
  clear h
  go_enter Try.func18, Try.ntmps18
  go_wp2_with fail
  clear hmk
  go_loopw [4] (fun i W => ∃ (k : Nat) (arr : Array Value), k ≤ ss.length ∧ i = .int .i64 k ∧ Hid (W.heap[w.heap.size]? = some (.cells arr 9)) ∧ arr.size = ss.length ∧ Hid (StrArr arr ss k) ∧ Hid (Below w.heap.size w W) ∧ w.heap.size < W.heap.size) (fun i _ => ss.length - (intOf i).toNat)
  case atStart => exact ⟨0, newS ss.length, Nat.zero_le _, rfl, newestB _ _, newS_size _, fun i hi => absurd hi (Nat.not_lt_zero _), k_alloc (Below.refl _ _) _, by simp⟩
  case round =>
    obtain ⟨k, arr, hk, rfl, HBk, hsz, HA, HB, hw⟩ := hrel
    by_cases hlt : k < ss.length
    · obtain ⟨b, off, cap', e', hc1, hc2, hbl, hx, hs⟩ := At.get (H.out.kept HB.out) hlt
      rw [Nat.mul_one] at hx
      simp only [Value.slice.injEq, true_and] at e'
      obtain ⟨rfl, rfl⟩ := e'
      have HN := Hid.intro (HA.out.next hsz hlt)
      generalize ss.getD k dS = x at hx HN
      unfold maxLen at hc2
      obtain ⟨y0, q0⟩ := someB (p := k) HBk.out (by omega)
      have fz : ∀ p, wr.frozen? ⟨w.heap.size, p, none⟩ = false := fun p => freeB HBk.out
      clear hs
      go_wp2
      go_roundw
      case rel => exact ⟨k + 1, _, by omega, by go_num, setB HBk.out _, by rw [Array.size_setIfInBounds]; exact hsz, HN, k_set HB.out (Nat.le_refl _) _, Nat.lt_of_lt_of_eq hw (by rw [sizeSet])⟩
      case measure => simp [intOf]; omega
    · obtain rfl : k = ss.length := by omega
      go_wp2
      go_ret
      refine ⟨_, _, rfl, ⟨_, _, rfl, Nat.le_refl _, hlen, fun i hi => ⟨w.heap.size, 0, rfl, hw, Nat.le_refl _, ?_, ?_⟩⟩, HB.out⟩
      · rw [Nat.zero_add, Nat.mul_one]; exact (cellB HBk.out).trans (HA.out i hi)
      · obtain ⟨_, _, _, _, _, _, _, _, hs⟩ := At.get H.out hi; exact hs

set_option maxRecDepth 100000 in
set_option maxHeartbeats 1000000 in
theorem eqStringS_any (v1 v2 : Value) (ss : List ByteArray) (w : World) {z1 z2 : Nat} (h1 : StrsAt w z1 v1 ss) (h2 : StrsAt w z2 v2 ss) :
    Calls Try.prog 11 #[v1, v2] w fun e w' => e = .returned (.bool true) ∧ ∃ n, w' = w.drewN n := by
  obtain ⟨a1, cap1, rfl, hlen⟩ := At.form h1
  obtain ⟨a2, cap2, rfl, _⟩ := At.form h2
  unfold maxLen at hlen
  have hne : ((ss.length : Int) != (ss.length : Int)) = false := by simp
  have H1 := Hid.intro h1
  have H2 := Hid.intro h2
  clear h1 h2
  go_enter Try.func11, Try.ntmps11
  go_wp2_with fail
  go_loopw [5] (fun i W => ∃ k n : Nat, k ≤ ss.length ∧ i = .int .i64 k ∧ W = w.drewN n) (fun i _ => ss.length - (intOf i).toNat)
  case atStart => exact ⟨0, 0, Nat.zero_le _, rfl, rfl⟩
  case round =>
    obtain ⟨k, nd, hk, rfl, rfl⟩ := hrel
    by_cases hlt : k < ss.length
    · obtain ⟨b1, off1, cap1', e1, hc11, hc12, hbl1, x0, _⟩ := At.get H1.out hlt
      simp only [Value.slice.injEq, true_and] at e1
      obtain ⟨rfl, rfl⟩ := e1
      obtain ⟨b2, off2, cap2', e2, hc21, hc22, hbl2, y0, _⟩ := At.get H2.out hlt
      simp only [Value.slice.injEq, true_and] at e2
      obtain ⟨rfl, rfl⟩ := e2
      unfold maxLen at hc12 hc22
      rw [Nat.mul_one] at x0 y0
      generalize ss.getD k dS = x at x0 y0
      go_wp2_with fail
      go_quiet (fail)
      go_wp2
      go_roundw
      case rel => exact ⟨k + 1, nd + nq, by omega, by go_num, rfl⟩
      case measure => simp [intOf]; omega
    · go_wp2
      go_ret
      exact ⟨rfl, nd, rfl⟩

/-- the first k texts, with one blank between any two -/
def joinTo (ss : List ByteArray) : Nat → ByteArray
  | 0 => ⟨#[]⟩
  | k + 1 => if k = 0 then ss.getD 0 dS else joinTo ss k ++ ⟨#[32]⟩ ++ ss.getD k dS

theorem empty_app (x : ByteArray) : (ByteArray.mk #[]) ++ x = x := Go.WideShapes.bytes_inj (by rw [Joins.data_append]; rfl)
theorem joinTo_size (ss : List ByteArray) : ∀ k, k ≤ ss.length → (joinTo ss k).size ≤ lnTo ss k + k
  | 0, _ => by simp [joinTo, lnTo]; rfl
  | k + 1, h => by
    have ih := joinTo_size ss k (by omega)
    have hs := lnTo_succ (ss := ss) (k := k) (by omega)
    rw [joinTo]
    split
    · rename_i h0
      subst h0
      omega
    · rw [ByteArray.size_append, ByteArray.size_append]
      have : (ByteArray.mk #[32]).size = 1 := rfl
      omega

set_option maxRecDepth 100000 in
set_option maxHeartbeats 1000000 in
theorem specTxtJoin (v : Value) (ss : List ByteArray) (hn : totS ss ≤ 1048576) (w : World) {z : Nat} (h : StrsAt w z v ss) :
    Calls Try.prog 17 #[v] w fun e w' => e = .returned (.string (joinTo ss ss.length)) ∧ w' = w := by
  obtain ⟨a, cap, rfl, hlen⟩ := At.form h
  unfold maxLen at hlen
  have H := Hid.intro h
  clear h
  go_enter Try.func17, Try.ntmps17
  go_wp2_with fail
  go_loop [3, 4] (fun o i => ∃ k : Nat, k ≤ ss.length ∧ i = .int .i64 k ∧ o = .string (joinTo ss k)) (fun _ i => ss.length - (intOf i).toNat)
  case atStart => exact ⟨0, Nat.zero_le _, rfl, rfl⟩
  case round =>
    obtain ⟨k, hk, rfl, rfl⟩ := hrel
    by_cases hlt : k < ss.length
    · obtain ⟨b, off, cap', e', hc1, hc2, hbl, hx, hs⟩ := At.get H.out hlt
      rw [Nat.mul_one] at hx
      simp only [Value.slice.injEq, true_and] at e'
      obtain ⟨rfl, rfl⟩ := e'
      unfold maxLen at hc2
      have hj := joinTo_size ss k (by omega)
      have hls := lnTo_succ hlt
      have hll := lnTo_le ss (k + 1)
      have hxs : (ss.getD k dS).size ≤ 1048576 := by unfold totS at hn; omega
      have hys : (joinTo ss k).size ≤ 2097152 := by unfold totS at hn; omega
      clear hj hls hll hs
      by_cases hk0 : k = 0
      · subst hk0
        rw [Nat.add_zero] at hx
        have HJ : Hid (joinTo ss (0 + 1) = ss.getD 0 dS) := Hid.intro (by simp [joinTo])
        have HZ : Hid (joinTo ss 0 = ⟨#[]⟩) := Hid.intro rfl
        rw [HZ.out]
        generalize ss.getD 0 dS = x at hx HJ hxs
        clear hys
        go_wp2
        go_round
        case rel => exact ⟨0 + 1, by omega, by go_num, by rw [HJ.out, empty_app]⟩
        case measure => simp [intOf]; omega
      · have hp : (0 : Int) < (k : Int) := by omega
        have HJ : Hid (joinTo ss (k + 1) = joinTo ss k ++ ⟨#[32]⟩ ++ ss.getD k dS) := Hid.intro (by rw [joinTo, if_neg hk0])
        generalize ss.getD k dS = x at hx HJ hxs
        generalize joinTo ss k = y at HJ hys
        have hb1 : ¬ 9223372036854775807 < y.size + 1 := by omega
        have hb2 : ¬ 9223372036854775807 < y.size + 1 + x.size := by omega
        go_wp2
        go_round
        case rel => exact ⟨k + 1, by omega, by go_num, by rw [HJ.out]⟩
        case measure => simp [intOf]; omega
    · obtain rfl : k = ss.length := by omega
      go_wp2
      go_ret
      exact ⟨rfl, rfl⟩
end Go.Proofs.Ytkcpcihamcdecar
