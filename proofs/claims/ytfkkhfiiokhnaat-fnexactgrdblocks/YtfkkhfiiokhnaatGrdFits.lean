/-
  PROVED HERE: what the program's boundsOk and cellFits answer; nothing that was in memory is turned.
-/
import Derived.Test.YtfkkhfiiokhnaatGrdTh
namespace Go.Proofs.Ytfkkhfiiokhnaat
open Go.RowKit

set_option maxRecDepth 100000 in
set_option maxHeartbeats 1000000 in
theorem boundsOk_any (R C : Int) (ac : Option Addr) (n cc : Nat) (w : World) :
    Calls Try.prog 37 #[.agg #[.int .i64 R, .int .i64 C, .slice ac n cc]] w fun e w' => e = .returned (.bool (boundsB R C n)) ∧ Below w.heap.size w w' := by
  cases h1 : inB R 1 8 with
  | false =>
    have HE : Hid (boundsB R C n = false) := by simp only [boundsB, h1, Bool.false_and]; exact trivial
    have K1 := Hid.intro (within_any R 1 8)
    rw [h1] at K1
    go_enter Try.func37, Try.ntmps37
    go_wp2_with fail
    refine (K1.out _).mono ?_
    rintro e w1 ⟨rfl, rfl⟩
    go_wp2
    go_ret
    exact ⟨retB HE.out.symm, k_alloc (Below.refl _ _) _⟩
  | true =>
    cases h2 : inB C 1 94 with
    | false =>
      have HE : Hid (boundsB R C n = false) := by simp only [boundsB, h2, Bool.false_and, Bool.and_false]; exact trivial
      have K1 := Hid.intro (within_any R 1 8)
      have K2 := Hid.intro (within_any C 1 94)
      rw [h1] at K1
      rw [h2] at K2
      go_enter Try.func37, Try.ntmps37
      go_wp2_with fail
      refine (K1.out _).mono ?_
      rintro e w1 ⟨rfl, rfl⟩
      go_wp2_with fail
      refine (K2.out _).mono ?_
      rintro e w1 ⟨rfl, rfl⟩
      go_wp2
      go_ret
      exact ⟨retB HE.out.symm, k_alloc (Below.refl _ _) _⟩
    | true =>
      have HE : Hid (boundsB R C n = decide ((n : Int) ≤ 40)) := by
        show boundsB R C n = _
        simp only [boundsB, h1, h2, Bool.true_and]
        exact decide_eq_decide.2 (by omega)
      have K1 := Hid.intro (within_any R 1 8)
      have K2 := Hid.intro (within_any C 1 94)
      rw [h1] at K1
      rw [h2] at K2
      go_enter Try.func37, Try.ntmps37
      go_wp2_with fail
      refine (K1.out _).mono ?_
      rintro e w1 ⟨rfl, rfl⟩
      go_wp2_with fail
      refine (K2.out _).mono ?_
      rintro e w1 ⟨rfl, rfl⟩
      go_wp2
      go_ret
      exact ⟨retB HE.out.symm, k_alloc (Below.refl _ _) _⟩

set_option maxRecDepth 100000 in
set_option maxHeartbeats 2000000 in
theorem cellFits_any (R C : Int) (v : Value) (x : GC) (hx : GOk x) (hR : 1 ≤ R ∧ R ≤ 8) (hC : 1 ≤ C ∧ C ≤ 94) (w : World) :
    Calls Try.prog 38 #[.agg #[.int .i64 R, .int .i64 C, v], .agg #[.int .i64 x.row, .int .i64 x.col, .int .i64 x.rows, .int .i64 x.cols, .int .i64 x.ins]] w fun e w' => e = .returned (.bool (fitsB R C x)) ∧ Below w.heap.size w w' := by
  obtain ⟨b0, b1, b2, b3, b4⟩ := hx
  unfold I64 at b0 b1 b2 b3 b4
  have K1 := Hid.intro (within_any x.row 0 (R - 1))
  have K2 := Hid.intro (within_any x.rows 1 (R - x.row))
  have K3 := Hid.intro (within_any x.col 0 (C - 1))
  have K4 := Hid.intro (within_any x.cols 1 (C - x.col))
  have K5 := Hid.intro (within_any x.ins 0 4)
  have p1 : IntKind.i64.wrap (R - 1) = R - 1 := by rw [IntKind.wrap_i64]; omega
  have p3 : IntKind.i64.wrap (C - 1) = C - 1 := by rw [IntKind.wrap_i64]; omega
  cases h1 : inB x.row 0 (R - 1) with
  | false =>
    rw [h1] at K1
    have HE : Hid (fitsB R C x = false) := by
      show fitsB R C x = false
      simp only [fitsB, h1, Bool.false_and]
    go_enter Try.func38, Try.ntmps38
    go_wp2_with fail
    refine (K1.out _).mono ?_
    rintro e w1 ⟨rfl, rfl⟩
    go_wp2
    go_ret
    exact ⟨retB HE.out.symm, k_alloc (k_alloc (Below.refl _ _) _) _⟩
  | true =>
    rw [h1] at K1
    have p2 : IntKind.i64.wrap (R - x.row) = R - x.row := by
      have := of_decide_eq_true h1
      rw [IntKind.wrap_i64]; omega
    cases h2 : inB x.rows 1 (R - x.row) with
    | false =>
      rw [h2] at K2
      have HE : Hid (fitsB R C x = false) := by
        show fitsB R C x = false
        simp only [fitsB, h2, Bool.false_and, Bool.and_false]
      go_enter Try.func38, Try.ntmps38
      go_wp2_with fail
      refine (K1.out _).mono ?_
      rintro e w1 ⟨rfl, rfl⟩
      go_wp2_with fail
      refine (K2.out _).mono ?_
      rintro e w1 ⟨rfl, rfl⟩
      go_wp2
      go_ret
      exact ⟨retB HE.out.symm, k_alloc (k_alloc (Below.refl _ _) _) _⟩
    | true =>
      rw [h2] at K2
      cases h3 : inB x.col 0 (C - 1) with
      | false =>
        rw [h3] at K3
        have HE : Hid (fitsB R C x = false) := by
          show fitsB R C x = false
          simp only [fitsB, h3, Bool.false_and, Bool.and_false]
        go_enter Try.func38, Try.ntmps38
        go_wp2_with fail
        refine (K1.out _).mono ?_
        rintro e w1 ⟨rfl, rfl⟩
        go_wp2_with fail
        refine (K2.out _).mono ?_
        rintro e w1 ⟨rfl, rfl⟩
        go_wp2_with fail
        refine (K3.out _).mono ?_
        rintro e w1 ⟨rfl, rfl⟩
        go_wp2
        go_ret
        exact ⟨retB HE.out.symm, k_alloc (k_alloc (Below.refl _ _) _) _⟩
      | true =>
        rw [h3] at K3
        have p4 : IntKind.i64.wrap (C - x.col) = C - x.col := by
          have := of_decide_eq_true h3
          rw [IntKind.wrap_i64]; omega
        cases h4 : inB x.cols 1 (C - x.col) with
        | false =>
          rw [h4] at K4
          have HE : Hid (fitsB R C x = false) := by
            show fitsB R C x = false
            simp only [fitsB, h4, Bool.false_and, Bool.and_false]
          go_enter Try.func38, Try.ntmps38
          go_wp2_with fail
          refine (K1.out _).mono ?_
          rintro e w1 ⟨rfl, rfl⟩
          go_wp2_with fail
          refine (K2.out _).mono ?_
          rintro e w1 ⟨rfl, rfl⟩
          go_wp2_with fail
          refine (K3.out _).mono ?_
          rintro e w1 ⟨rfl, rfl⟩
          go_wp2_with fail
          refine (K4.out _).mono ?_
          rintro e w1 ⟨rfl, rfl⟩
          go_wp2
          go_ret
          exact ⟨retB HE.out.symm, k_alloc (k_alloc (Below.refl _ _) _) _⟩
        | true =>
          rw [h4] at K4
          cases h5 : inB x.ins 0 4 with
          | false =>
            rw [h5] at K5
            have HE : Hid (fitsB R C x = false) := by
              show fitsB R C x = false
              simp only [fitsB, h5, Bool.and_false]
            go_enter Try.func38, Try.ntmps38
            go_wp2_with fail
            refine (K1.out _).mono ?_
            rintro e w1 ⟨rfl, rfl⟩
            go_wp2_with fail
            refine (K2.out _).mono ?_
            rintro e w1 ⟨rfl, rfl⟩
            go_wp2_with fail
            refine (K3.out _).mono ?_
            rintro e w1 ⟨rfl, rfl⟩
            go_wp2_with fail
            refine (K4.out _).mono ?_
            rintro e w1 ⟨rfl, rfl⟩
            go_wp2_with fail
            refine (K5.out _).mono ?_
            rintro e w1 ⟨rfl, rfl⟩
            go_wp2
            go_ret
            exact ⟨retB HE.out.symm, k_alloc (k_alloc (Below.refl _ _) _) _⟩
          | true =>
            rw [h5] at K5
            have HE : Hid (fitsB R C x = true) := by
              show fitsB R C x = true
              simp only [fitsB, h1, h2, h3, h4, h5, Bool.and_self]
            go_enter Try.func38, Try.ntmps38
            go_wp2_with fail
            refine (K1.out _).mono ?_
            rintro e w1 ⟨rfl, rfl⟩
            go_wp2_with fail
            refine (K2.out _).mono ?_
            rintro e w1 ⟨rfl, rfl⟩
            go_wp2_with fail
            refine (K3.out _).mono ?_
            rintro e w1 ⟨rfl, rfl⟩
            go_wp2_with fail
            refine (K4.out _).mono ?_
            rintro e w1 ⟨rfl, rfl⟩
            go_wp2_with fail
            refine (K5.out _).mono ?_
            rintro e w1 ⟨rfl, rfl⟩
            go_wp2
            go_ret
            exact ⟨retB HE.out.symm, k_alloc (k_alloc (Below.refl _ _) _) _⟩
end Go.Proofs.Ytfkkhfiiokhnaat
