/-
  PROVED HERE: what the program's TxtJoin answers of texts that lie in memory: the same as the model's ('joinTo'); nothing that was in memory is turned.
-/
import Derived.Test.YtfkfgmfahoeaoaaStrsC
import Derived.Test.YtfkfgmfahoeaoaaBld2
import Derived.Test.YtfkfgmfahoeaoaaShelf
namespace Go.Proofs.Ytfkfgmfahoeaoaa
open Go.RowKit

theorem strCells_app (a b : ByteArray) : Lib.strCells (a ++ b) = Lib.strCells a ++ Lib.strCells b := by
  unfold Lib.strCells
  rw [Joins.data_append, List.map_append]
theorem strCells_blank : Lib.strCells ⟨#[32]⟩ = [.int .u8 32] := rfl
theorem ofList (s : ByteArray) : (⟨s.data.toList.toArray⟩ : ByteArray) = s := by cases s; simp
theorem newBld (w : World) : Lib.IsBuilderF 47 5 w.heap.size w.heap.size (Lib.strCells ⟨#[]⟩) (w.alloc (.cells #[.pointer none, .slice none 0 0] 47)) :=
  Or.inl ⟨Nat.le_refl _, .slice none 0 0, newestB _ _, World.ownsRowF_of (World.ownsRow_nil _ _ _ _), by simp [Value.ownBlock]⟩

set_option maxRecDepth 100000 in
set_option maxHeartbeats 1000000 in
theorem implTxtJoin (v : Value) (ss : List ByteArray) (hn : totS ss ≤ 1048576) (w : World) {z : Nat} (h : StrsAt w z v ss) :
    Calls Try.prog 17 #[v] w fun e w' => e = .returned (.string (joinTo ss ss.length)) ∧ Below w.heap.size w w' := by
  obtain ⟨a, cap, rfl, hlen⟩ := At.form h
  unfold maxLen at hlen
  have H := Hid.intro h
  clear h
  go_enter Try.func17, Try.ntmps17
  go_wp2_with fail
  go_loopw [4, 5, 8] (fun _ _ i W => ∃ k : Nat, k ≤ ss.length ∧ i = .int .i64 k ∧ Hid (Lib.IsBuilderF 47 5 w.heap.size w.heap.size (Lib.strCells (joinTo ss k)) W) ∧ Hid (Below w.heap.size w W)) (fun _ _ i _ => ss.length - (intOf i).toNat)
  case atStart => exact ⟨0, Nat.zero_le _, rfl, newBld w, k_alloc (Below.refl _ _) _⟩
  case round =>
    obtain ⟨k, hk, rfl, HI, HB⟩ := hrel
    have hwz := HB.out.size
    by_cases hlt : k < ss.length
    · obtain ⟨b, off, cap', e', hc1, hc2, hbl, hx, hs⟩ := At.get (H.out.kept HB.out) hlt
      rw [Nat.mul_one] at hx
      simp only [Value.slice.injEq, true_and] at e'
      obtain ⟨rfl, rfl⟩ := e'
      unfold maxLen at hc2
      have hj := joinTo_size ss k (by omega)
      have hls := lnTo_succ hlt
      have hll := lnTo_le ss (k + 1)
      have hxs : (ss.getD k dS).size ≤ 1048576 := by unfold totS at hn; omega
      have hys : (joinTo ss k).size ≤ 2097152 := by unfold totS at hn; omega
      clear hj hls hll hs
      by_cases hk0 : k = 0
      · subst hk0
        rw [Nat.add_zero] at hx
        have HJ : Hid (Lib.strCells (joinTo ss (0 + 1)) = Lib.strCells (joinTo ss 0) ++ Lib.strCells (ss.getD 0 dS)) := Hid.intro (by simp [joinTo, Lib.strCells])
        generalize ss.getD 0 dS = x at hx HJ hxs
        generalize joinTo ss 0 = y at HI HJ hys
        go_wp2_with fail
        refine (writeString w.heap.size w.heap.size (Lib.strCells y) x _ HI.out (by rw [Lib.strCells_length]; omega) hwz).mono ?_
        rintro e w1 ⟨rfl, h1, hb1, _⟩
        have HI1 : Hid (Lib.IsBuilderF 47 5 w.heap.size w.heap.size (Lib.strCells (joinTo ss (0 + 1))) w1) := Hid.intro (by rw [HJ.out]; exact Or.inr h1)
        have K1 := Hid.intro (HB.out.trans hb1)
        clear h1 hb1
        go_wp2
        go_roundw
        case rel => exact ⟨0 + 1, by omega, by go_num, HI1, K1⟩
        case measure => simp [intOf]; omega
      · have hp : (0 : Int) < (k : Int) := by omega
        have HJ : Hid (Lib.strCells (joinTo ss (k + 1)) = Lib.strCells (joinTo ss k) ++ [.int .u8 32] ++ Lib.strCells (ss.getD k dS)) := Hid.intro (by rw [joinTo, if_neg hk0, strCells_app, strCells_app, strCells_blank])
        generalize ss.getD k dS = x at hx HJ hxs
        generalize joinTo ss k = y at HI HJ hys
        go_wp2_with fail
        refine (writeByte w.heap.size w.heap.size (Lib.strCells y) 32 _ HI.out (by rw [Lib.strCells_length]; omega) hwz).mono ?_
        rintro e w1 ⟨rfl, h1, hb1, _⟩
        have K1 := Hid.intro (HB.out.trans hb1)
        have hwz1 := K1.out.size
        have H1 := Hid.intro h1
        clear h1 hb1
        go_wp2_with fail
        refine (writeString w.heap.size w.heap.size (Lib.strCells y ++ [.int .u8 32]) x _ (Or.inr H1.out) (by rw [List.length_append, Lib.strCells_length]; simp; omega) hwz1).mono ?_
        rintro e w2 ⟨rfl, h2, hb2, _⟩
        have HI2 : Hid (Lib.IsBuilderF 47 5 w.heap.size w.heap.size (Lib.strCells (joinTo ss (k + 1))) w2) := Hid.intro (by rw [HJ.out]; exact Or.inr h2)
        have K2 := Hid.intro (K1.out.trans hb2)
        clear h2 hb2
        go_wp2
        go_roundw
        case rel => exact ⟨k + 1, by omega, by go_num, HI2, K2⟩
        case measure => simp [intOf]; omega
    · obtain rfl : k = ss.length := by omega
      generalize hy : joinTo ss ss.length = y at HI
      have HY := Hid.intro hy
      clear hy
      go_wp2_with fail
      refine (Try.Builder_String_any_k w.heap.size w.heap.size y.data.toList _ HI.out hwz).mono ?_
      rw [ofList]
      rintro e w1 ⟨rfl, _, hb1, _⟩
      have K1 := Hid.intro (HB.out.trans hb1)
      clear hb1
      go_wp2
      go_ret
      exact ⟨by rw [HY.out]; rfl, K1.out⟩
end Go.Proofs.Ytfkfgmfahoeaoaa
