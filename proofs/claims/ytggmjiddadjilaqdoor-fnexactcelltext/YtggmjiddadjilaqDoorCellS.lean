/-
  PROVED HERE: what the model's CellOk answers at every cell whose text is a Go string.
-/
import Derived.Test.YtggmjiddadjilaqDoorCellB
import Derived.Test.YtggmjiddadjilaqDoorBrdS
namespace Go.Proofs.YtggmjiddadjilaqDoor
open Go.RowKit

set_option maxRecDepth 100000 in
set_option maxHeartbeats 1000000 in
theorem specCellOk (s : ByteArray) (c r a1 b1 a2 b2 a3 b3 a4 b4 : Int) (w : World) (hs : s.size ≤ maxLen) :
    Calls Tryd.prog 12 #[.agg #[.string s, .int .i64 c, .int .i64 r, .int .i64 a1, .int .i64 b1, .int .i64 a2, .int .i64 b2, .int .i64 a3, .int .i64 b3, .int .i64 a4, .int .i64 b4]] w fun e w' => e = .returned (.bool (cellOkB s c r a1 b1 a2 b2 a3 b3 a4 b4)) ∧ Below w.heap.size w w' := by
  cases h0 : txtOkB s
  ·
    as_aux_lemma =>
      have HB : Hid (cellOkB s c r a1 b1 a2 b2 a3 b3 a4 b4 = false) := Hid.mk (by simp [cellOkB, h0])
      go_enter Tryd.func12, Tryd.ntmps12
      go_wp2_with (first | (go_at_call 25; refine (specTxtOk _ _ hs).mono ?_; rintro e w' ⟨rfl, rfl⟩) | (go_at_call 26; refine (l1In_any _ _ _ _).mono ?_; rintro e w' ⟨rfl, rfl⟩) | (go_at_call 27; refine (specBrdOk _ _ _).mono ?_; rintro e w' ⟨rfl, rfl⟩))
      go_ret
      exact ⟨retB HB.out.symm, by repeat (first | exact Below.refl _ _ | apply k_alloc)⟩
  cases h1 : inB c 1 4
  ·
    as_aux_lemma =>
      have HB : Hid (cellOkB s c r a1 b1 a2 b2 a3 b3 a4 b4 = false) := Hid.mk (by simp [cellOkB, h0, h1])
      go_enter Tryd.func12, Tryd.ntmps12
      go_wp2_with (first | (go_at_call 25; refine (specTxtOk _ _ hs).mono ?_; rintro e w' ⟨rfl, rfl⟩) | (go_at_call 26; refine (l1In_any _ _ _ _).mono ?_; rintro e w' ⟨rfl, rfl⟩) | (go_at_call 27; refine (specBrdOk _ _ _).mono ?_; rintro e w' ⟨rfl, rfl⟩))
      go_ret
      exact ⟨retB HB.out.symm, by repeat (first | exact Below.refl _ _ | apply k_alloc)⟩
  cases h2 : inB r 1 4
  ·
    as_aux_lemma =>
      have HB : Hid (cellOkB s c r a1 b1 a2 b2 a3 b3 a4 b4 = false) := Hid.mk (by simp [cellOkB, h0, h1, h2])
      go_enter Tryd.func12, Tryd.ntmps12
      go_wp2_with (first | (go_at_call 25; refine (specTxtOk _ _ hs).mono ?_; rintro e w' ⟨rfl, rfl⟩) | (go_at_call 26; refine (l1In_any _ _ _ _).mono ?_; rintro e w' ⟨rfl, rfl⟩) | (go_at_call 27; refine (specBrdOk _ _ _).mono ?_; rintro e w' ⟨rfl, rfl⟩))
      go_ret
      exact ⟨retB HB.out.symm, by repeat (first | exact Below.refl _ _ | apply k_alloc)⟩
  cases h3 : brdOkB a1 b1
  ·
    as_aux_lemma =>
      have HB : Hid (cellOkB s c r a1 b1 a2 b2 a3 b3 a4 b4 = false) := Hid.mk (by simp [cellOkB, h0, h1, h2, h3])
      go_enter Tryd.func12, Tryd.ntmps12
      go_wp2_with (first | (go_at_call 25; refine (specTxtOk _ _ hs).mono ?_; rintro e w' ⟨rfl, rfl⟩) | (go_at_call 26; refine (l1In_any _ _ _ _).mono ?_; rintro e w' ⟨rfl, rfl⟩) | (go_at_call 27; refine (specBrdOk _ _ _).mono ?_; rintro e w' ⟨rfl, rfl⟩))
      go_ret
      exact ⟨retB HB.out.symm, by repeat (first | exact Below.refl _ _ | apply k_alloc)⟩
  cases h4 : brdOkB a2 b2
  ·
    as_aux_lemma =>
      have HB : Hid (cellOkB s c r a1 b1 a2 b2 a3 b3 a4 b4 = false) := Hid.mk (by simp [cellOkB, h0, h1, h2, h3, h4])
      go_enter Tryd.func12, Tryd.ntmps12
      go_wp2_with (first | (go_at_call 25; refine (specTxtOk _ _ hs).mono ?_; rintro e w' ⟨rfl, rfl⟩) | (go_at_call 26; refine (l1In_any _ _ _ _).mono ?_; rintro e w' ⟨rfl, rfl⟩) | (go_at_call 27; refine (specBrdOk _ _ _).mono ?_; rintro e w' ⟨rfl, rfl⟩))
      go_ret
      exact ⟨retB HB.out.symm, by repeat (first | exact Below.refl _ _ | apply k_alloc)⟩
  cases h5 : brdOkB a3 b3
  ·
    as_aux_lemma =>
      have HB : Hid (cellOkB s c r a1 b1 a2 b2 a3 b3 a4 b4 = false) := Hid.mk (by simp [cellOkB, h0, h1, h2, h3, h4, h5])
      go_enter Tryd.func12, Tryd.ntmps12
      go_wp2_with (first | (go_at_call 25; refine (specTxtOk _ _ hs).mono ?_; rintro e w' ⟨rfl, rfl⟩) | (go_at_call 26; refine (l1In_any _ _ _ _).mono ?_; rintro e w' ⟨rfl, rfl⟩) | (go_at_call 27; refine (specBrdOk _ _ _).mono ?_; rintro e w' ⟨rfl, rfl⟩))
      go_ret
      exact ⟨retB HB.out.symm, by repeat (first | exact Below.refl _ _ | apply k_alloc)⟩
  as_aux_lemma =>
    have HB : Hid (cellOkB s c r a1 b1 a2 b2 a3 b3 a4 b4 = brdOkB a4 b4) := Hid.mk (by simp [cellOkB, h0, h1, h2, h3, h4, h5])
    go_enter Tryd.func12, Tryd.ntmps12
    go_wp2_with (first | (go_at_call 25; refine (specTxtOk _ _ hs).mono ?_; rintro e w' ⟨rfl, rfl⟩) | (go_at_call 26; refine (l1In_any _ _ _ _).mono ?_; rintro e w' ⟨rfl, rfl⟩) | (go_at_call 27; refine (specBrdOk _ _ _).mono ?_; rintro e w' ⟨rfl, rfl⟩))
    go_ret
    exact ⟨retB HB.out.symm, by repeat (first | exact Below.refl _ _ | apply k_alloc)⟩
end Go.Proofs.YtggmjiddadjilaqDoor
