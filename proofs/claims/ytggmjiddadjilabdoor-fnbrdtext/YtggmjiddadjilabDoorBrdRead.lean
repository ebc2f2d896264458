/-
  PROVED HERE: what the program's BrdRead and the model's answer at every string: one border and one Bool; nothing that was in memory is turned.
-/
import Derived.Test.YtggmjiddadjilabDoorKit
import Derived.Test.YtggmjiddadjilabDoorBrd
import Derived.RegionTactic
import Derived.Deep.RegionWith
import Derived.ChangeAlike
import Derived.Lib.Strings
namespace Go.Proofs.YtggmjiddadjilabDoor
open Go.RowKit

/-- the i-th byte of a text, 0 past its end -/
def by8 (s : ByteArray) (i : Nat) : Int := if h : i < s.size then (s[i].toNat : Int) else 0
/-- a digit's number, -1 of any other byte -/
def numOf (c : Int) : Int := if 48 ≤ c ∧ c ≤ 57 then c - 48 else -1
theorem by8_at {s : ByteArray} {i : Nat} (h : i < s.size) : by8 s i = (s[i].toNat : Int) := by simp [by8, h]
theorem retI {k : IntKind} {a b : Int} (h : a = b) : Ending.returned (.int k a) = .returned (.int k b) := by rw [h]
theorem inB_11 : inB 1 1 4 = true := by decide

set_option maxRecDepth 100000 in
set_option maxHeartbeats 400000 in
theorem l1Number_one (s : ByteArray) (h1 : s.size = 1) (w : World) :
    Calls Tryd.prog 23 #[.string s] w fun e w' => e = .returned (.int .i64 (numOf (by8 s 0))) ∧ w' = w := by
  have hin := inB_11
  have hz : 0 < s.size := by omega
  have hb : (s[0].toNat : Int) < 256 := by have := s[0].toNat_lt; omega
  have HC : Hid (by8 s 0 = (s[0].toNat : Int)) := by8_at hz
  by_cases hd : (48 : Int) ≤ (s[0].toNat : Int) ∧ (s[0].toNat : Int) ≤ 57
  · have HE : Hid (numOf (by8 s 0) = (s[0].toNat : Int) - 48) := by show numOf (by8 s 0) = _; rw [HC.out, numOf, if_pos hd]
    obtain ⟨hd1, hd2⟩ := hd
    clear HC
    go_enter Tryd.func23, Tryd.ntmps23
    go_wp2_with (go_at_call 39; refine (l1In_any _ _ _ _).mono ?_; rintro e w' ⟨rfl, rfl⟩)
    go_loop [3, 4] (fun n i => (n = .int .i64 0 ∧ i = .int .i64 0) ∨ (n = .int .i64 ((s[0].toNat : Int) - 48) ∧ i = .int .i64 1)) (fun _ i => 1 - (intOf i).toNat)
    case atStart => exact Or.inl ⟨rfl, rfl⟩
    case round =>
      rcases hrel with ⟨rfl, rfl⟩ | ⟨rfl, rfl⟩
      · go_wp2
        go_round
        case rel => exact Or.inr ⟨by go_num, rfl⟩
        case measure => simp [intOf]
      · go_wp2
        go_ret
        exact ⟨retI HE.out.symm, rfl⟩
  · have HE : Hid (numOf (by8 s 0) = -1) := by show numOf (by8 s 0) = _; rw [HC.out, numOf, if_neg hd]
    clear HC
    by_cases hd1 : (48 : Int) ≤ (s[0].toNat : Int)
    · have hd2 : ¬ (s[0].toNat : Int) ≤ 57 := by omega
      clear hd
      go_enter Tryd.func23, Tryd.ntmps23
      go_wp2_with (go_at_call 39; refine (l1In_any _ _ _ _).mono ?_; rintro e w' ⟨rfl, rfl⟩)
      go_loop [3, 4] (fun n i => n = .int .i64 0 ∧ i = .int .i64 0) (fun _ i => 1 - (intOf i).toNat)
      case atStart => exact ⟨rfl, rfl⟩
      case round =>
        obtain ⟨rfl, rfl⟩ := hrel
        go_wp2
        go_ret
        exact ⟨retI HE.out.symm, rfl⟩
    · clear hd
      go_enter Tryd.func23, Tryd.ntmps23
      go_wp2_with (go_at_call 39; refine (l1In_any _ _ _ _).mono ?_; rintro e w' ⟨rfl, rfl⟩)
      go_loop [3, 4] (fun n i => n = .int .i64 0 ∧ i = .int .i64 0) (fun _ i => 1 - (intOf i).toNat)
      case atStart => exact ⟨rfl, rfl⟩
      case round =>
        obtain ⟨rfl, rfl⟩ := hrel
        go_wp2
        go_ret
        exact ⟨retI HE.out.symm, rfl⟩

/-- what a text reads as: style, width, whether it is a border's text -/
def rdOk (s : ByteArray) : Bool := decide (s.size = 2) && brdOkB (by8 s 0 - 48) (by8 s 1 - 48)
def rdA (s : ByteArray) : Int := if rdOk s then by8 s 0 - 48 else 0
def rdB (s : ByteArray) : Int := if rdOk s then by8 s 1 - 48 else 0
theorem num_brd (c d : Int) : brdOkB (numOf c) (numOf d) = brdOkB (c - 48) (d - 48) := by
  unfold brdOkB numOf
  rw [decide_eq_decide]
  split <;> split <;> omega
theorem num_is {c d : Int} (h : brdOkB (c - 48) (d - 48) = true) : numOf c = c - 48 ∧ numOf d = d - 48 := by
  unfold brdOkB at h
  have h := of_decide_eq_true h
  unfold numOf
  constructor <;> (rw [if_pos (by omega)])

set_option maxRecDepth 100000 in
set_option maxHeartbeats 1000000 in
theorem implBrdRead (s : ByteArray) (w : World) :
    Calls Tryd.prog 8 #[.string s] w fun e w' => e = .returned (.tuple #[.agg #[.int .i64 (rdA s), .int .i64 (rdB s)], .bool (rdOk s)]) ∧ Below w.heap.size w w' := by
  by_cases h2 : s.size = 2
  · have hn : ((s.size : Int) != 2) = false := by simp [h2]
    have l0 : 0 < s.size := by omega
    have l1 : 1 < s.size := by omega
    have c0 : (s[0].toNat : Int) < 256 := by have := s[0].toNat_lt; omega
    have c1 : (s[1].toNat : Int) < 256 := by have := s[1].toNat_lt; omega
    have H0 : Hid (by8 s 0 = (s[0].toNat : Int)) := by8_at l0
    have H1 : Hid (by8 s 1 = (s[1].toNat : Int)) := by8_at l1
    have l0' : (0 : Int) < (s.size : Int) := by omega
    have l1' : (1 : Int) < (s.size : Int) := by omega
    have HS := Hid.intro h2
    clear h2
    cases hv : brdOkB ((s[0].toNat : Int) - 48) ((s[1].toNat : Int) - 48)
    · have HO : Hid (rdOk s = false) := by show rdOk s = false; rw [rdOk, H0.out, H1.out, hv]; simp
      have HA : Hid (rdA s = 0) := by show rdA s = 0; rw [rdA, HO.out]; rfl
      have HB : Hid (rdB s = 0) := by show rdB s = 0; rw [rdB, HO.out]; rfl
      clear H0 H1
      go_enter Tryd.func8, Tryd.ntmps8
      go_wp2
      go_region
      go_wp2_with (go_at_call 11; refine (implBrdOk _ _ _).mono ?_; rintro e w' ⟨rfl, rfl⟩)
      refine bodyPost_ret (v := .tuple #[.agg #[.int .i64 0, .int .i64 0], .bool false]) (by simp [results, Tryd.results8, go_sem]) rfl ⟨by rw [HA.out, HB.out, HO.out], ?_⟩
      repeat (first | exact Below.refl _ _ | refine k_alloc ?_ _ | refine k_drew ?_)
    · have HO : Hid (rdOk s = true) := by show rdOk s = true; rw [rdOk, H0.out, H1.out, hv, HS.out]; rfl
      have HA : Hid (rdA s = (s[0].toNat : Int) - 48) := by show rdA s = _; rw [rdA, HO.out, H0.out]; rfl
      have HB : Hid (rdB s = (s[1].toNat : Int) - 48) := by show rdB s = _; rw [rdB, HO.out, H1.out]; rfl
      clear H0 H1
      go_enter Tryd.func8, Tryd.ntmps8
      go_wp2
      go_region
      go_wp2_with (go_at_call 11; refine (implBrdOk _ _ _).mono ?_; rintro e w' ⟨rfl, rfl⟩)
      refine bodyPost_ret (v := .tuple #[.agg #[.int .i64 ((s[0].toNat : Int) - 48), .int .i64 ((s[1].toNat : Int) - 48)], .bool true]) (by simp [results, Tryd.results8, go_sem]) rfl ⟨by rw [HA.out, HB.out, HO.out], ?_⟩
      repeat (first | exact Below.refl _ _ | refine k_alloc ?_ _ | refine k_drew ?_)
  · have hn : ((s.size : Int) != 2) = true := by simp; omega
    have HO : Hid (rdOk s = false) := by show rdOk s = false; simp [rdOk, h2]
    have HA : Hid (rdA s = 0) := by show rdA s = 0; rw [rdA, HO.out]; rfl
    have HB : Hid (rdB s = 0) := by show rdB s = 0; rw [rdB, HO.out]; rfl
    clear h2
    go_enter Tryd.func8, Tryd.ntmps8
    go_wp2
    refine bodyPost_ret (v := .tuple #[.agg #[.int .i64 0, .int .i64 0], .bool false]) (by simp [results, Tryd.results8, go_sem]) rfl ⟨by rw [HA.out, HB.out, HO.out], ?_⟩
    repeat (first | exact Below.refl _ _ | refine k_alloc ?_ _ | refine k_drew ?_)

theorem ext0_size {s : ByteArray} (h : s.size = 2) : (s.extract 0 1).size = 1 := by rw [ByteArray.size_extract]; omega
theorem ext1_size {s : ByteArray} (h : s.size = 2) : (s.extract 1 s.size).size = 1 := by rw [ByteArray.size_extract]; omega
theorem ext0_by {s : ByteArray} (h : s.size = 2) : by8 (s.extract 0 1) 0 = by8 s 0 := by
  rw [by8_at (by rw [ext0_size h]; omega), by8_at (by omega)]
  simp [ByteArray.getElem_extract]
theorem ext1_by {s : ByteArray} (h : s.size = 2) : by8 (s.extract 1 s.size) 0 = by8 s 1 := by
  rw [by8_at (by rw [ext1_size h]; omega), by8_at (by omega)]
  simp [ByteArray.getElem_extract]

set_option maxRecDepth 100000 in
set_option maxHeartbeats 1000000 in
theorem specBrdRead (s : ByteArray) (w : World) :
    Calls Tryd.prog 9 #[.string s] w fun e w' => e = .returned (.tuple #[.agg #[.int .i64 (rdA s), .int .i64 (rdB s)], .bool (rdOk s)]) ∧ Below w.heap.size w w' := by
  by_cases h2 : s.size = 2
  · have hn : ((s.size : Int) != 2) = false := by simp [h2]
    have l0' : (0 : Int) < (s.size : Int) := by omega
    have l1' : (1 : Int) < (s.size : Int) := by omega
    have l2' : (1 : Int) ≤ (s.size : Int) := by omega
    have hl0 : ∀ w', Calls Tryd.prog 23 #[.string (s.extract 0 1)] w' fun e w'' => e = .returned (.int .i64 (numOf (by8 s 0))) ∧ w'' = w' := fun w' => by
      have := l1Number_one (s.extract 0 1) (ext0_size h2) w'
      rwa [ext0_by h2] at this
    have hl1 : ∀ w', Calls Tryd.prog 23 #[.string (s.extract 1 2)] w' fun e w'' => e = .returned (.int .i64 (numOf (by8 s 1))) ∧ w'' = w' := fun w' => by
      have := l1Number_one (s.extract 1 s.size) (ext1_size h2) w'
      rwa [ext1_by h2, h2] at this
    have HL0 := Hid.intro hl0
    have HL1 := Hid.intro hl1
    have HV := Hid.intro (num_brd (by8 s 0) (by8 s 1))
    have HI := Hid.intro (fun h => num_is (c := by8 s 0) (d := by8 s 1) h)
    clear hl0 hl1
    cases hv : brdOkB (numOf (by8 s 0)) (numOf (by8 s 1))
    · as_aux_lemma =>
        have HO : Hid (rdOk s = false) := by show rdOk s = false; rw [rdOk, ← HV.out, hv]; simp
        have HA : Hid (rdA s = 0) := by show rdA s = 0; rw [rdA, HO.out]; rfl
        have HB : Hid (rdB s = 0) := by show rdB s = 0; rw [rdB, HO.out]; rfl
        clear HV HI
        go_enter Tryd.func9, Tryd.ntmps9
        go_wp2
        go_region_with (first | (go_at_call_of 23 (s.extract 0 1); refine (HL0.out _).mono ?_; rintro e w' ⟨rfl, rfl⟩) | (go_at_call_of 23 (s.extract 1 2); refine (HL1.out _).mono ?_; rintro e w' ⟨rfl, rfl⟩))
        all_goals
          go_wp2_with (go_at_call 24; refine (specBrdOk _ _ _).mono ?_; rintro e w' ⟨rfl, rfl⟩)
          refine bodyPost_ret (v := .tuple #[.agg #[.int .i64 0, .int .i64 0], .bool false]) (by simp [results, Tryd.results9, go_sem]) rfl ⟨by rw [HA.out, HB.out, HO.out], ?_⟩
          repeat (first | refine k_alloc ?_ _ | refine k_drew ?_ | exact Below.refl _ _)
    · as_aux_lemma =>
        have hi := HI.out (HV.out.symm.trans hv)
        have HO : Hid (rdOk s = true) := by show rdOk s = true; rw [rdOk, ← HV.out, hv, h2]; rfl
        have HA : Hid (rdA s = numOf (by8 s 0)) := by show rdA s = _; rw [rdA, HO.out, hi.1]; rfl
        have HB : Hid (rdB s = numOf (by8 s 1)) := by show rdB s = _; rw [rdB, HO.out, hi.2]; rfl
        clear HV HI hi
        go_enter Tryd.func9, Tryd.ntmps9
        go_wp2
        go_region_with (first | (go_at_call_of 23 (s.extract 0 1); refine (HL0.out _).mono ?_; rintro e w' ⟨rfl, rfl⟩) | (go_at_call_of 23 (s.extract 1 2); refine (HL1.out _).mono ?_; rintro e w' ⟨rfl, rfl⟩))
        all_goals
          go_wp2_with (go_at_call 24; refine (specBrdOk _ _ _).mono ?_; rintro e w' ⟨rfl, rfl⟩)
          refine bodyPost_ret (v := .tuple #[.agg #[.int .i64 (numOf (by8 s 0)), .int .i64 (numOf (by8 s 1))], .bool true]) (by simp [results, Tryd.results9, go_sem]) rfl ⟨by rw [HA.out, HB.out, HO.out], ?_⟩
          repeat (first | refine k_alloc ?_ _ | refine k_drew ?_ | exact Below.refl _ _)
  · have hn : ((s.size : Int) != 2) = true := by simp; omega
    have HO : Hid (rdOk s = false) := by show rdOk s = false; simp [rdOk, h2]
    have HA : Hid (rdA s = 0) := by show rdA s = 0; rw [rdA, HO.out]; rfl
    have HB : Hid (rdB s = 0) := by show rdB s = 0; rw [rdB, HO.out]; rfl
    clear h2
    go_enter Tryd.func9, Tryd.ntmps9
    go_wp2
    refine bodyPost_ret (v := .tuple #[.agg #[.int .i64 0, .int .i64 0], .bool false]) (by simp [results, Tryd.results9, go_sem]) rfl ⟨by rw [HA.out, HB.out, HO.out], ?_⟩
    repeat (first | exact Below.refl _ _ | refine k_alloc ?_ _ | refine k_drew ?_)
end Go.Proofs.YtggmjiddadjilabDoor
