/-
  PROVED HERE: lists of texts in memory, and what the model's TxtJoin answers of them; nothing that was in memory is turned.
-/
import Derived.Test.YtfkfgmfahoeaoaaTbl
import Derived.Test.YtfkfgmfahoeaoaaMem
import Derived.WalkLawsBesides
import Derived.WalkSpells
import Derived.Deep.QuietTactic
import Derived.BigQuiet
import Derived.WideShapes
namespace Go.Proofs.Ytfkfgmfahoeaoaa
open Go.RowKit

def dS : ByteArray := ByteArray.empty
def StrsAt (w : World) (z : Nat) (v : Value) (ss : List ByteArray) : Prop := At w z v ss.length 1 (fun i b o => w.cell? ⟨b, o, none⟩ = some (.string (ss.getD i dS)) ∧ (ss.getD i dS).size ≤ maxLen)
theorem StrsAt.since {w w' : World} {z : Nat} {v : Value} {ss : List ByteArray} (h : StrsAt w z v ss) (k : Since z w w') : StrsAt w' z v ss :=
  At.mono h k.size (Nat.le_refl _) (fun _ _ _ _ hb hz he => ⟨(k.cell hz hb _).trans he.1, he.2⟩)
theorem StrsAt.kept {w w' : World} {z : Nat} {v : Value} {ss : List ByteArray} (h : StrsAt w z v ss) (k : Below w.heap.size w w') : StrsAt w' z v ss := h.since (.of_below k)
def lnTo (ss : List ByteArray) (k : Nat) : Nat := ((ss.take k).map (fun x => x.size)).sum
theorem lnTo_succ {ss : List ByteArray} {k : Nat} (h : k < ss.length) : lnTo ss (k + 1) = lnTo ss k + (ss.getD k dS).size := by
  have e : ss.getD k dS = ss[k] := by simp [List.getD, h]
  rw [e]
  exact sum_take_succ (fun x : ByteArray => x.size) ss k h
theorem lnTo_le (ss : List ByteArray) (k : Nat) : lnTo ss k ≤ lnTo ss ss.length := by
  have := sum_take_le (fun x : ByteArray => x.size) ss k
  unfold lnTo
  rw [List.take_length]
  exact this
def totS (ss : List ByteArray) : Nat := ss.length + lnTo ss ss.length

/-- the first k texts, with one blank between any two -/
def joinTo (ss : List ByteArray) : Nat → ByteArray
  | 0 => ⟨#[]⟩
  | k + 1 => if k = 0 then ss.getD 0 dS else joinTo ss k ++ ⟨#[32]⟩ ++ ss.getD k dS

theorem empty_app (x : ByteArray) : (ByteArray.mk #[]) ++ x = x := Go.WideShapes.bytes_inj (by rw [Joins.data_append]; rfl)
theorem joinTo_size (ss : List ByteArray) : ∀ k, k ≤ ss.length → (joinTo ss k).size ≤ lnTo ss k + k
  | 0, _ => by simp [joinTo, lnTo]; rfl
  | k + 1, h => by
    have ih := joinTo_size ss k (by omega)
    have hs := lnTo_succ (ss := ss) (k := k) (by omega)
    rw [joinTo]
    split
    · rename_i h0
      subst h0
      omega
    · rw [ByteArray.size_append, ByteArray.size_append]
      have : (ByteArray.mk #[32]).size = 1 := rfl
      omega

set_option maxRecDepth 100000 in
set_option maxHeartbeats 1000000 in
theorem specTxtJoin (v : Value) (ss : List ByteArray) (hn : totS ss ≤ 1048576) (w : World) {z : Nat} (h : StrsAt w z v ss) :
    Calls Try.prog 19 #[v] w fun e w' => e = .returned (.string (joinTo ss ss.length)) ∧ w' = w := by
  obtain ⟨a, cap, rfl, hlen⟩ := At.form h
  unfold maxLen at hlen
  have H := Hid.intro h
  clear h
  go_enter Try.func19, Try.ntmps19
  go_wp2_with fail
  go_loop [3, 4] (fun o i => ∃ k : Nat, k ≤ ss.length ∧ i = .int .i64 k ∧ o = .string (joinTo ss k)) (fun _ i => ss.length - (intOf i).toNat)
  case atStart => exact ⟨0, Nat.zero_le _, rfl, rfl⟩
  case round =>
    obtain ⟨k, hk, rfl, rfl⟩ := hrel
    by_cases hlt : k < ss.length
    · obtain ⟨b, off, cap', e', hc1, hc2, hbl, hx, hs⟩ := At.get H.out hlt
      rw [Nat.mul_one] at hx
      simp only [Value.slice.injEq, true_and] at e'
      obtain ⟨rfl, rfl⟩ := e'
      unfold maxLen at hc2
      have hj := joinTo_size ss k (by omega)
      have hls := lnTo_succ hlt
      have hll := lnTo_le ss (k + 1)
      have hxs : (ss.getD k dS).size ≤ 1048576 := by unfold totS at hn; omega
      have hys : (joinTo ss k).size ≤ 2097152 := by unfold totS at hn; omega
      clear hj hls hll hs
      by_cases hk0 : k = 0
      · subst hk0
        rw [Nat.add_zero] at hx
        have HJ : Hid (joinTo ss (0 + 1) = ss.getD 0 dS) := Hid.intro (by simp [joinTo])
        have HZ : Hid (joinTo ss 0 = ⟨#[]⟩) := Hid.intro rfl
        rw [HZ.out]
        generalize ss.getD 0 dS = x at hx HJ hxs
        clear hys
        go_wp2
        go_round
        case rel => exact ⟨0 + 1, by omega, by go_num, by rw [HJ.out, empty_app]⟩
        case measure => simp [intOf]; omega
      · have hp : (0 : Int) < (k : Int) := by omega
        have HJ : Hid (joinTo ss (k + 1) = joinTo ss k ++ ⟨#[32]⟩ ++ ss.getD k dS) := Hid.intro (by rw [joinTo, if_neg hk0])
        generalize ss.getD k dS = x at hx HJ hxs
        generalize joinTo ss k = y at HJ hys
        have hb1 : ¬ 9223372036854775807 < y.size + 1 := by omega
        have hb2 : ¬ 9223372036854775807 < y.size + 1 + x.size := by omega
        go_wp2
        go_round
        case rel => exact ⟨k + 1, by omega, by go_num, by rw [HJ.out]⟩
        case measure => simp [intOf]; omega
    · obtain rfl : k = ss.length := by omega
      go_wp2
      go_ret
      exact ⟨rfl, rfl⟩
end Go.Proofs.Ytfkfgmfahoeaoaa
