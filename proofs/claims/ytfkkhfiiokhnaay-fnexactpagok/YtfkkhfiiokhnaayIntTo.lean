/-
  PROVED HERE: what the laws' own toIntS and eqIntS answer of lists of numbers in memory; nothing that was in memory is turned.
-/
import Derived.Test.YtfkkhfiiokhnaayIntEq
import Derived.Test.YtfkkhfiiokhnaayIntMk
import Derived.Deep.RegionWith
import Derived.Deep.QuietTactic
import Derived.BigQuiet
namespace Go.Proofs.Ytfkkhfiiokhnaay
open Go.RowKit

def IntArr (arr : Array Value) (l : List Int) (k : Nat) : Prop := ∀ i, i < k → arr[i]? = some (.int .i64 (l.getD i 0))
theorem IntArr.next {arr : Array Value} {l : List Int} {k : Nat} (h : IntArr arr l k) (hs : arr.size = l.length) (hk : k < l.length) : IntArr (arr.setIfInBounds k (.int .i64 (l.getD k 0))) l (k + 1) := by
  intro i hi
  rcases Nat.lt_or_eq_of_le (Nat.lt_succ_iff.1 hi) with hlt | rfl
  · rw [Array.getElem?_setIfInBounds_ne (by omega)]; exact h i hlt
  · have eq : ∀ (A : Array Value) (i : Nat) (v : Value), i < A.size → (A.setIfInBounds i v)[i]? = some v := fun A i v hi => by simp [hi]
    exact eq _ _ _ (by omega)

set_option maxRecDepth 100000 in
set_option maxHeartbeats 1000000 in
theorem toIntS_any (v : Value) (l : List Int) (hn : l.length ≤ 1048576) (w : World) (h : IntsAt w v l) :
    Calls Try.prog 10 #[v] w fun e w' => ∃ a cap, e = .returned (.slice a l.length cap) ∧ RowI w' w.heap.size w'.heap.size (.slice a l.length cap) l ∧ Below w.heap.size w w' := by
  obtain ⟨a, cap, rfl, hlen⟩ := h.form
  have hmk := makeI l.length hn
  have H := Hid.intro h
  clear h
  go_enter Try.func10, Try.ntmps10
  go_wp2_with fail
  clear hmk
  go_loopw [4] (fun i W => ∃ (k : Nat) (arr : Array Value), k ≤ l.length ∧ i = .int .i64 k ∧ Hid (W.heap[w.heap.size]? = some (.cells arr 3)) ∧ arr.size = l.length ∧ Hid (IntArr arr l k) ∧ Hid (Below w.heap.size w W) ∧ w.heap.size < W.heap.size) (fun i _ => l.length - (intOf i).toNat)
  case atStart => exact ⟨0, newI l.length, Nat.zero_le _, rfl, newestB _ _, newI_size _, fun i hi => absurd hi (Nat.not_lt_zero _), k_alloc (Below.refl _ _) _, by simp⟩
  case round =>
    obtain ⟨k, arr, hk, rfl, HBk, hsz, HA, HB, hw⟩ := hrel
    by_cases hlt : k < l.length
    · obtain ⟨b, off, cap', e', hc1, hc2, hbl, hx⟩ := (H.out.kept HB.out).get hlt
      simp only [Value.slice.injEq, true_and] at e'
      obtain ⟨rfl, rfl⟩ := e'
      have HN := Hid.intro (HA.out.next hsz hlt)
      generalize l.getD k 0 = x at hx HN
      unfold maxLen at hc2
      obtain ⟨y0, q0⟩ := someB (p := k) HBk.out (by omega)
      have fz : ∀ p, wr.frozen? ⟨w.heap.size, p, none⟩ = false := fun p => freeB HBk.out
      go_wp2
      go_roundw
      case rel => exact ⟨k + 1, _, by omega, by go_num, setB HBk.out _, by rw [Array.size_setIfInBounds]; exact hsz, HN, k_set HB.out (Nat.le_refl _) _, Nat.lt_of_lt_of_eq hw (by rw [sizeSet])⟩
      case measure => simp [intOf]; omega
    · obtain rfl : k = l.length := by omega
      go_wp2
      go_ret
      exact ⟨_, _, rfl, .inr ⟨w.heap.size, _, arr, rfl, Nat.le_refl _, hw, HBk.out, Nat.le_refl _, by unfold maxLen; omega, hsz, HA.out⟩, HB.out⟩

end Go.Proofs.Ytfkkhfiiokhnaay
