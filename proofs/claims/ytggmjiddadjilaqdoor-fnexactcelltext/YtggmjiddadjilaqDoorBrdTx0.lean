/-
  PROVED HERE: what the program's BrdText answers at every border: its two digits, or nothing; nothing that was in memory is turned.
-/
import Derived.Test.YtggmjiddadjilaqDoorKit
import Derived.Test.YtggmjiddadjilaqDoorBrd
import Derived.Test.YtggmjiddadjilaqDoorShelf
import Derived.Laws.IdiomStrings
import Derived.Deep.RegionWith
import Derived.Deep.QuietTactic
import Derived.BigQuiet
import Derived.Test.YtggmjiddadjilaqDoorQuietB
namespace Go.Proofs.YtggmjiddadjilaqDoor
open Go.RowKit

/-- one digit -/
def dg (n : Int) : ByteArray := ⟨#[48 + UInt8.ofNat n.toNat]⟩
theorem dg_size (n : Int) : (dg n).size = 1 := rfl
/-- a border's text -/
def txtB (a b : Int) : ByteArray := if brdOkB a b = true then dg a ++ dg b else ⟨#[]⟩
theorem brd_range {a b : Int} (h : brdOkB a b = true) : (0 ≤ a ∧ a ≤ 4) ∧ 0 ≤ b ∧ b ≤ 3 := by
  simp only [brdOkB, decide_eq_true_eq] at h
  omega

theorem itoa_any (n : Int) (h0 : 0 ≤ n) (h4 : n ≤ 4) (w : World) :
    Calls Tryd.prog 36 #[.int .i64 n] w fun e w' => e = .returned (.string (dg n)) ∧ w' = w := by
  obtain ⟨m, rfl⟩ := Int.eq_ofNat_of_zero_le h0
  have h := Tryd.strconv_Itoa_small m (by omega) w
  have e : (⟨(Lib.decDigits m).toArray⟩ : ByteArray) = dg (m : Int) := by
    rw [Lib.decDigits_one (by omega)]
    rcases (by omega : m = 0 ∨ m = 1 ∨ m = 2 ∨ m = 3 ∨ m = 4) with rfl | rfl | rfl | rfl | rfl <;> rfl
  rw [e] at h
  exact h

set_option maxRecDepth 100000 in
set_option maxHeartbeats 400000 in
theorem digits_any (n : Int) (h0 : 0 ≤ n) (h4 : n ≤ 4) (w : World) :
    Calls Tryd.prog 28 #[.int .i64 n] w fun e w' => e = .returned (.string (dg n)) ∧ Below w.heap.size w w' := by
  by_cases h1 : n < 1
  · obtain rfl : n = 0 := by omega
    go_enter Tryd.func28, Tryd.ntmps28
    go_wp2
    go_ret
    exact ⟨rfl, Below.refl _ _⟩
  · obtain ⟨m, rfl⟩ := Int.eq_ofNat_of_zero_le h0
    have hm1 : 1 ≤ m := by omega
    have hm4 : m ≤ 4 := by omega
    go_enter Tryd.func28, Tryd.ntmps28
    go_wp2_with fail
    go_loopw [0, 3] (fun q o W => ((q = .int .i64 (m : Int) ∧ o = .string ⟨#[]⟩) ∨ (q = .int .i64 0 ∧ o = .string (dg m))) ∧ Hid (Below w.heap.size w W)) (fun q _ _ => (intOf q).toNat)
    case atStart => exact ⟨.inl ⟨rfl, rfl⟩, Below.refl _ _⟩
    case round =>
      obtain ⟨h | h, HB⟩ := hrel
      · obtain ⟨rfl, rfl⟩ := h
        have hp : (0 : Int) < (m : Int) := by omega
        have hcv : (convert 55 9 (.slice (some ⟨wr.heap.size, 0, none⟩) 1 1)).run Tryd.prog (wr.alloc (.cells #[.int .u8 (48 + (m : Int) % 10)] 5)) = .ok (.string ⟨#[48 + UInt8.ofNat (m % 10)]⟩) (wr.alloc (.cells #[.int .u8 (48 + (m : Int) % 10)] 5)) :=
          run_convert_bytes_back _ _ _ 5 ⟨wr.heap.size, 0, none⟩ 1 [48 + UInt8.ofNat (m % 10)] Tryd.underlying55 Tryd.underlying5 Tryd.underlying9 (fun i hi => by
            match i, hi with
            | 0, _ => simp [Addr.add, UInt8.toNat_add]; omega)
        have HE : Hid ((ByteArray.mk #[48 + UInt8.ofNat (m % 10)]) ++ (ByteArray.mk #[]) = dg m) := by
          show _ = _
          rw [Nat.mod_eq_of_lt (by omega)]
          rfl
        go_wp2
        go_roundw
        case rel => exact ⟨.inr ⟨by go_num, by rw [HE.out]⟩, k_alloc HB.out _⟩
        case measure => simp [intOf]; omega
      · obtain ⟨rfl, rfl⟩ := h
        generalize hd : dg (m : Int) = d
        go_wp2
        go_ret
        exact ⟨by rw [hd]; rfl, HB.out⟩

set_option maxRecDepth 100000 in
set_option maxHeartbeats 400000 in
theorem implBrdText (a b : Int) (w : World) :
    Calls Tryd.prog 18 #[.agg #[.int .i64 a, .int .i64 b]] w fun e w' => e = .returned (.string (txtB a b)) ∧ Below w.heap.size w w' := by
  by_cases hok : brdOkB a b = true
  · obtain ⟨⟨a0, a4⟩, b0, b3⟩ := brd_range hok
    have HT : Hid (txtB a b = dg a ++ dg b) := by show _ = _; rw [txtB, if_pos hok]
    have HA := Hid.intro (fun W => itoa_any a a0 a4 W)
    have HB := Hid.intro (fun W => itoa_any b b0 (by omega) W)
    have hsz : ¬ 9223372036854775807 < (dg a).size + (dg b).size := by rw [dg_size, dg_size]; omega
    go_enter Tryd.func18, Tryd.ntmps18
    go_wp2_with fail
    refine (implBrdOk _ _ _).mono ?_
    rintro e w1 ⟨rfl, rfl⟩
    rw [hok]
    generalize hda : dg a = da at HA HT hsz
    generalize hdb : dg b = db at HB HT hsz
    clear hda hdb
    go_wp2_with fail
    go_quiet (first | refine (HA.out _).mono (fun _ _ ⟨h1, h2⟩ => ⟨h1, _, h2⟩) | refine (HB.out _).mono (fun _ _ ⟨h1, h2⟩ => ⟨h1, _, h2⟩))
    go_wp2
    go_ret
    exact ⟨by rw [HT.out]; rfl, k_drewN (k_alloc (k_alloc (Below.refl _ _) _) _) nq⟩
  · have hok' := eq_false_of_ne_true hok
    have HT : Hid (txtB a b = ⟨#[]⟩) := by show _ = _; rw [txtB, if_neg hok]
    go_enter Tryd.func18, Tryd.ntmps18
    go_wp2_with fail
    refine (implBrdOk _ _ _).mono ?_
    rintro e w1 ⟨rfl, rfl⟩
    rw [hok']
    go_wp2
    go_ret
    exact ⟨by rw [HT.out]; rfl, k_alloc (k_alloc (Below.refl _ _) _) _⟩
end Go.Proofs.YtggmjiddadjilaqDoor
