/-
  PROVED HERE: what the library's Repeat makes of one 1: as many as are asked, in memory of its own.
-/
import Derived.Test.YtgcobajekffmoacInts
import Derived.Test.YtgcobajekffmoacIntMk
import Derived.Laws.CopyOwn
import Derived.Deep.RegionLaw
import Derived.Deep.RegionWith
import Derived.WideShapes
import Derived.Shelf.Bits.Mul64
import Derived.Shelf.Lay
import Derived.Ground.NamesProg
namespace Go.Proofs.Ytgcobajekffmoac
open Go.RowKit Go.Shelf Go.Lib

shelf_lay Lays.n212 Nm 212 at Try as bitsMul
/-- the first k are 1 -/
def OnesTo (L : List Value) (k : Nat) : Prop := ∀ i, i < k → L[i]? = some (.int .i64 1)
theorem ones_next {L : List Value} {k c : Nat} (h : OnesTo L k) (hc : k + c ≤ L.length) : OnesTo (splice L k (List.replicate c (.int .i64 1))) (k + c) := by
  intro i hi
  unfold splice
  by_cases e : i < k
  · rw [List.getElem?_append_left (by simp; omega), List.getElem?_take_of_lt e]
    exact h i e
  · rw [List.getElem?_append_right (by simp; omega), List.getElem?_append_left (by simp; omega)]
    rw [List.getElem?_replicate, if_pos (by rw [List.length_take]; omega)]
theorem uI : (Try.prog.info? 3).map (·.size) = some 1 := by kernel_rfl

set_option maxRecDepth 100000 in
set_option maxHeartbeats 2000000 in
theorem repeat_any (b n : Nat) (h1 : 1 ≤ n) (hn : n ≤ 100) (w : World) (hb : b < w.heap.size) (hx : w.cell? ⟨b, 0, none⟩ = some (.int .i64 1)) :
    Calls Try.prog 59 #[.slice (some ⟨b, 0, none⟩) 1 1, .int .i64 n] w fun e w' => ∃ a cap, e = .returned (.slice a n cap) ∧ RowI w' w.heap.size w'.heap.size (.slice a n cap) (List.replicate n 1) ∧ Below w.heap.size w w' := by
  have hmul := fun W => Any.bits_Mul bitsMul 1 n (by omega) (by omega) W
  change ∀ W, Calls Try.prog 70 _ _ _ at hmul
  have em1 : 1 * n / 18446744073709551616 = 0 := by omega
  have em2 : 1 * n % 18446744073709551616 = n := by omega
  rw [em1, em2] at hmul
  have HM := Hid.intro hmul
  have hmk := makeI n (by omega)
  have hn0 : ¬ (n : Int) < 0 := by omega
  clear hmul em1 em2
  go_enter Try.func59, Try.ntmps59
  go_wp2_with fail
  refine (HM.out _).mono ?_
  rintro e w1 ⟨rfl, e1⟩
  cases e1
  have hcp := run_copy_row (P := Try.prog) (w.alloc (.cells (newI n) 3)) 36 36 3 3 w.heap.size 0 n n ⟨b, 0, none⟩ 1 1 (newI n) 3 [.int .i64 1] Try.underlying36 uI (newestB _ _) (by simp [Nat.min_def]; omega)
    (fun j v hv => by
      match j, hv with
      | 0, hv => simp at hv; subst hv; rw [show (⟨b, 0, none⟩ : Addr).add 0 = ⟨b, 0, none⟩ from rfl]; exact ((k_alloc (Below.refl w.heap.size w) _).cell (p := ⟨b, 0, none⟩) hb).trans hx)
    (by rw [newI_size]; simp; omega) (fun v hv => by simp at hv; subst hv; rfl)
  obtain ⟨w2, hw2⟩ : ∃ w2, w2 = (w.alloc (.cells (newI n) 3)).setRow w.heap.size ((newI n).toList.take 0 ++ [Value.int .i64 1] ++ (newI n).toList.drop (0 + [Value.int .i64 1].length)).toArray := ⟨_, rfl⟩
  rw [← hw2] at hcp
  have HG : Hid (w2.heap[w.heap.size]? = some (.cells (splice (newI n).toList 0 [.int .i64 1]).toArray 3 (0, 0))) := by
    rw [hw2]
    show _ = _
    rw [setRow_heap _ _ _ _ _ _ (newestB _ _)]
    simp [splice]
  have hB : Below w.heap.size w w2 := by rw [hw2]; exact below_setRow (k_alloc (Below.refl _ _) _) (Nat.le_refl _) _
  clear hw2
  go_wp2_with fail
  clear hcp
  have HB := Hid.intro hB
  have HO : Hid (OnesTo (splice (newI n).toList 0 [.int .i64 1]) 1) := by
    have := ones_next (L := (newI n).toList) (k := 0) (c := 1) (fun i hi => absurd hi (Nat.not_lt_zero _)) (by rw [Array.length_toList, newI_size]; omega)
    exact this
  have hL0 : (newI n).toList.length = n := by rw [Array.length_toList, newI_size]
  have hL : (splice (newI n).toList 0 [.int .i64 1]).length = n := by rw [length_splice _ _ _ (by rw [hL0]; exact h1), hL0]
  have hz2 : w.heap.size < w2.heap.size := (Array.getElem?_eq_some_iff.1 HG.out).1
  generalize splice (newI n).toList 0 [.int .i64 1] = L0 at HG HO hL
  clear hB hmk
  go_loopw [8] (fun s8 W => ∃ (k : Nat) (L : List Value), s8 = .int .i64 k ∧ 1 ≤ k ∧ k ≤ n ∧ L.length = n ∧ Hid (W.heap[w.heap.size]? = some (.cells L.toArray 3 (0, 0))) ∧ Hid (OnesTo L k) ∧ Hid (Below w.heap.size w W) ∧ w.heap.size < W.heap.size) (fun s8 _ => n - (intOf s8).toNat)
  case atStart => exact ⟨1, L0, rfl, Nat.le_refl _, h1, hL, HG, HO, HB, hz2⟩
  case round =>
    clear HG HO HB hz2 hL
    obtain ⟨k, L, rfl, hk1, hk2, hL, HG, HO, HB, hz⟩ := hrel
    have HL := Hid.intro hL
    clear hL
    by_cases hlt : k < n
    · have hltz : (k : Int) < (n : Int) := by omega
      obtain ⟨c, hc⟩ : ∃ c, c = min k (n - k) := ⟨_, rfl⟩
      have hc1 : 1 ≤ c := by rw [hc, Nat.min_def]; split <;> omega
      have hc2 : k + c ≤ n := by rw [hc, Nat.min_def]; split <;> omega
      have HC := Hid.intro hc
      have HN := Hid.intro (ones_next (c := c) HO.out (by rw [HL.out]; exact hc2))
      have HL2 : Hid ((splice L k (List.replicate c (.int .i64 1))).length = n) := by show _ = _; rw [length_splice _ _ _ (by rw [HL.out]; simp; omega)]; exact HL.out
      obtain ⟨cs, hcs⟩ : ∃ cs : List Value, cs = List.replicate c (.int .i64 1) := ⟨_, rfl⟩
      rw [← hcs] at HN HL2
      have hcl : cs.length = c := by rw [hcs]; simp
      have HCS := Hid.intro hcs
      have HCL := Hid.intro hcl
      clear hc hcs hcl
      have hcp := run_copy_row (P := Try.prog) wr.drew 36 36 3 3 w.heap.size k (n - k) (n - k) ⟨w.heap.size, 0, none⟩ k n L.toArray 3 cs Try.underlying36 uI HG.out (by rw [HCL.out, HC.out])
        (fun j v hv => by
          have hj : j < cs.length := (List.getElem?_eq_some_iff.1 hv).1
          rw [HCL.out] at hj
          rw [HCS.out, List.getElem?_replicate, if_pos hj] at hv
          rw [Go.WideShapes.add_plain, Nat.zero_add]
          have e : c ≤ k := by rw [HC.out]; exact Nat.min_le_left _ _
          show wr.cell? _ = _
          rw [cellB HG.out, List.getElem?_toArray, HO.out j (by omega)]
          exact hv)
        (by rw [HCL.out]; simp; rw [HL.out]; exact hc2) (fun v hv => by rw [HCS.out] at hv; rw [(List.mem_replicate.1 hv).2]; rfl)
      rw [HCL.out] at hcp
      obtain ⟨w3, hw3⟩ : ∃ w3, w3 = wr.drew.setRow w.heap.size (L.toArray.toList.take k ++ cs ++ L.toArray.toList.drop (k + c)).toArray := ⟨_, rfl⟩
      rw [← hw3] at hcp
      have HG3 : Hid (w3.heap[w.heap.size]? = some (.cells (splice L k cs).toArray 3 (0, 0))) := by
        rw [hw3]
        show _ = _
        rw [setRow_heap wr.drew _ _ _ _ _ HG.out]
        simp [splice, HCL.out]
      have HB3 : Hid (Below w.heap.size w w3) := by rw [hw3]; exact below_setRow (k_drew HB.out) (Nat.le_refl _) _
      have hz3 : w.heap.size < w3.heap.size := (Array.getElem?_eq_some_iff.1 HG3.out).1
      clear hw3
      generalize splice L k cs = L3 at HG3 HN HL2
      have hk0 : (0 : Int) ≤ (k : Int) := by omega
      have enk : ((n : Int) - (k : Int)).toNat = n - k := by omega
      go_wp2_with fail
      go_region
      all_goals
        go_wp2
        go_roundw
        case rel => exact ⟨k + c, L3, by go_num, by omega, hc2, HL2.out, HG3, HN, HB3, hz3⟩
        case measure => simp [intOf]; omega
    · obtain rfl : k = n := by omega
      go_wp2
      go_ret
      exact ⟨_, _, rfl, .inr ⟨w.heap.size, k, L.toArray, by simp, Nat.le_refl _, hz, HG.out, by simp, by unfold maxLen; omega, by simpa using HL.out, fun i hi => by
        rw [List.length_replicate] at hi
        rw [List.getElem?_toArray, HO.out i hi]
        simp [List.getD, hi]⟩, HB.out⟩
end Go.Proofs.Ytgcobajekffmoac
