/-
  PROVED HERE: what the program's TblPart and the model's answer at a table that lies in memory, at every number of a row; nothing that was in memory is turned.
-/
import Derived.Test.YtfkfgmfahoeaoabTblOkS
namespace Go.Proofs.Ytfkfgmfahoeaoab
open Go.RowKit

def partOf (t : T) (q : Int) : Int := if tblB t = true ∧ inB q 0 (t.rows.length - 1) = true then (if q < t.head then 0 else if t.rows.length - t.foot ≤ q then 2 else 1) else -1
theorem retIP {a b : Int} (h : a = b) : Ending.returned (.int .i64 a) = .returned (.int .i64 b) := by rw [h]
theorem tblB_bounds {t : T} (h : tblB t = true) : (1 ≤ t.rows.length ∧ t.rows.length ≤ 8) ∧ (0 ≤ t.head ∧ t.head ≤ t.rows.length) ∧ 0 ≤ t.foot ∧ t.foot ≤ t.rows.length := by
  simp only [tblB, partsB, Bool.and_eq_true] at h
  have h1 : (1 : Int) ≤ t.rows.length ∧ (t.rows.length : Int) ≤ 8 := of_decide_eq_true h.1
  have h2 : 0 ≤ t.head ∧ t.head ≤ t.rows.length := of_decide_eq_true h.2.1.1
  have h3 : 0 ≤ t.foot ∧ t.foot ≤ t.rows.length - t.head := of_decide_eq_true h.2.1.2
  omega

set_option maxRecDepth 100000 in
set_option maxHeartbeats 1000000 in
theorem implTblPart (ac ar : Option Addr) (cc cr : Nat) (t : T) (q : Int) (w : World) {z : Nat} (hc : ColsAt w z (.slice ac t.cols.length cc) t.cols) (hr : RowsAt w z (.slice ar t.rows.length cr) t.rows) :
    Calls Try.prog 8 #[.agg #[.slice ac t.cols.length cc, .int .i64 t.head, .int .i64 t.foot, .slice ar t.rows.length cr, .int .i64 t.gap], .int .i64 q] w fun e w' => e = .returned (.int .i64 (partOf t q)) ∧ Below w.heap.size w w' := by
  have K0 := Hid.intro (k_alloc (Below.refl w.heap.size w) (.cells #[.slice ac t.cols.length cc, .int .i64 t.head, .int .i64 t.foot, .slice ar t.rows.length cr, .int .i64 t.gap] 26))
  have HC := Hid.intro (hc.kept K0.out)
  have HR := Hid.intro (hr.kept K0.out)
  clear hc hr
  cases hv : tblB t
  · have HF : Hid (partOf t q = -1) := Hid.intro (by rw [partOf, if_neg (by rw [hv]; simp)])
    go_enter Try.func8, Try.ntmps8
    go_wp2_with fail
    refine (implTblOk ac ar cc cr t _ HC.out HR.out).mono ?_
    rw [hv]
    rintro e w1 ⟨rfl, hb1⟩
    have K1 := Hid.intro (k_trans K0.out hb1)
    clear hb1
    go_wp2
    go_ret
    exact ⟨retIP HF.out.symm, K1.out⟩
  obtain ⟨⟨b1, b2⟩, ⟨b3, b4⟩, b5, b6⟩ := tblB_bounds hv
  cases hi : inB q 0 (t.rows.length - 1)
  · have HF : Hid (partOf t q = -1) := Hid.intro (by rw [partOf, if_neg (by rw [hi]; simp)])
    go_enter Try.func8, Try.ntmps8
    go_wp2_with fail
    refine (implTblOk ac ar cc cr t _ HC.out HR.out).mono ?_
    rw [hv]
    rintro e w1 ⟨rfl, hb1⟩
    obtain ⟨m0, m1, m2, m3, m4⟩ := fiveO ((hb1.block w.heap.size (by simp)).trans (newestO _ _))
    have K1 := Hid.intro (k_trans K0.out hb1)
    clear hb1
    go_wp2_with (go_at_call 24; refine (within_any _ _ _ _).mono ?_; rintro e w' ⟨rfl, rfl⟩)
    go_ret
    exact ⟨retIP HF.out.symm, K1.out⟩
  have HP : Hid (partOf t q = if q < t.head then 0 else if t.rows.length - t.foot ≤ q then 2 else 1) := Hid.intro (by rw [partOf, if_pos ⟨hv, hi⟩])
  by_cases h1 : q < t.head
  · have HF : Hid (partOf t q = 0) := Hid.intro (by rw [HP.out, if_pos h1])
    go_enter Try.func8, Try.ntmps8
    go_wp2_with fail
    refine (implTblOk ac ar cc cr t _ HC.out HR.out).mono ?_
    rw [hv]
    rintro e w1 ⟨rfl, hb1⟩
    obtain ⟨m0, m1, m2, m3, m4⟩ := fiveO ((hb1.block w.heap.size (by simp)).trans (newestO _ _))
    have K1 := Hid.intro (k_trans K0.out hb1)
    clear hb1
    go_wp2_with (go_at_call 24; refine (within_any _ _ _ _).mono ?_; rintro e w' ⟨rfl, rfl⟩)
    go_ret
    exact ⟨retIP HF.out.symm, K1.out⟩
  by_cases h2 : (t.rows.length : Int) - t.foot ≤ q
  · have HF : Hid (partOf t q = 2) := Hid.intro (by rw [HP.out, if_neg h1, if_pos h2])
    go_enter Try.func8, Try.ntmps8
    go_wp2_with fail
    refine (implTblOk ac ar cc cr t _ HC.out HR.out).mono ?_
    rw [hv]
    rintro e w1 ⟨rfl, hb1⟩
    obtain ⟨m0, m1, m2, m3, m4⟩ := fiveO ((hb1.block w.heap.size (by simp)).trans (newestO _ _))
    have K1 := Hid.intro (k_trans K0.out hb1)
    clear hb1
    go_wp2_with (go_at_call 24; refine (within_any _ _ _ _).mono ?_; rintro e w' ⟨rfl, rfl⟩)
    go_ret
    exact ⟨retIP HF.out.symm, K1.out⟩
  · have HF : Hid (partOf t q = 1) := Hid.intro (by rw [HP.out, if_neg h1, if_neg h2])
    go_enter Try.func8, Try.ntmps8
    go_wp2_with fail
    refine (implTblOk ac ar cc cr t _ HC.out HR.out).mono ?_
    rw [hv]
    rintro e w1 ⟨rfl, hb1⟩
    obtain ⟨m0, m1, m2, m3, m4⟩ := fiveO ((hb1.block w.heap.size (by simp)).trans (newestO _ _))
    have K1 := Hid.intro (k_trans K0.out hb1)
    clear hb1
    go_wp2_with (go_at_call 24; refine (within_any _ _ _ _).mono ?_; rintro e w' ⟨rfl, rfl⟩)
    go_ret
    exact ⟨retIP HF.out.symm, K1.out⟩

set_option maxRecDepth 100000 in
set_option maxHeartbeats 1000000 in
theorem specTblPart (ac ar : Option Addr) (cc cr : Nat) (t : T) (q : Int) (w : World) {z : Nat} (hc : ColsAt w z (.slice ac t.cols.length cc) t.cols) (hr : RowsAt w z (.slice ar t.rows.length cr) t.rows) :
    Calls Try.prog 9 #[.agg #[.slice ac t.cols.length cc, .int .i64 t.head, .int .i64 t.foot, .slice ar t.rows.length cr, .int .i64 t.gap], .int .i64 q] w fun e w' => e = .returned (.int .i64 (partOf t q)) ∧ Below w.heap.size w w' := by
  have K0 := Hid.intro (k_alloc (Below.refl w.heap.size w) (.cells #[.slice ac t.cols.length cc, .int .i64 t.head, .int .i64 t.foot, .slice ar t.rows.length cr, .int .i64 t.gap] 26))
  have HC := Hid.intro (hc.kept K0.out)
  have HR := Hid.intro (hr.kept K0.out)
  clear hc hr
  cases hv : tblB t
  · have HF : Hid (partOf t q = -1) := Hid.intro (by rw [partOf, if_neg (by rw [hv]; simp)])
    go_enter Try.func9, Try.ntmps9
    go_wp2_with fail
    refine (specTblOk ac ar cc cr t _ HC.out HR.out).mono ?_
    rw [hv]
    rintro e w1 ⟨rfl, hb1⟩
    have K1 := Hid.intro (k_trans K0.out hb1)
    clear hb1
    go_wp2
    go_ret
    exact ⟨retIP HF.out.symm, K1.out⟩
  obtain ⟨⟨b1, b2⟩, ⟨b3, b4⟩, b5, b6⟩ := tblB_bounds hv
  cases hi : inB q 0 (t.rows.length - 1)
  · have HF : Hid (partOf t q = -1) := Hid.intro (by rw [partOf, if_neg (by rw [hi]; simp)])
    go_enter Try.func9, Try.ntmps9
    go_wp2_with fail
    refine (specTblOk ac ar cc cr t _ HC.out HR.out).mono ?_
    rw [hv]
    rintro e w1 ⟨rfl, hb1⟩
    obtain ⟨m0, m1, m2, m3, m4⟩ := fiveO ((hb1.block w.heap.size (by simp)).trans (newestO _ _))
    have K1 := Hid.intro (k_trans K0.out hb1)
    clear hb1
    go_wp2_with (go_at_call 25; refine (l1In_any _ _ _ _).mono ?_; rintro e w' ⟨rfl, rfl⟩)
    go_ret
    exact ⟨retIP HF.out.symm, K1.out⟩
  have HP : Hid (partOf t q = if q < t.head then 0 else if t.rows.length - t.foot ≤ q then 2 else 1) := Hid.intro (by rw [partOf, if_pos ⟨hv, hi⟩])
  by_cases h1 : q < t.head
  · have HF : Hid (partOf t q = 0) := Hid.intro (by rw [HP.out, if_pos h1])
    go_enter Try.func9, Try.ntmps9
    go_wp2_with fail
    refine (specTblOk ac ar cc cr t _ HC.out HR.out).mono ?_
    rw [hv]
    rintro e w1 ⟨rfl, hb1⟩
    obtain ⟨m0, m1, m2, m3, m4⟩ := fiveO ((hb1.block w.heap.size (by simp)).trans (newestO _ _))
    have K1 := Hid.intro (k_trans K0.out hb1)
    clear hb1
    go_wp2_with (first | (go_at_call 25; refine (l1In_any _ _ _ _).mono ?_; rintro e w' ⟨rfl, rfl⟩) | go_in)
    go_ret
    exact ⟨retIP HF.out.symm, by repeat (first | exact K1.out | refine k_alloc ?_ _)⟩
  by_cases h2 : (t.rows.length : Int) - t.foot ≤ q
  · have HF : Hid (partOf t q = 2) := Hid.intro (by rw [HP.out, if_neg h1, if_pos h2])
    go_enter Try.func9, Try.ntmps9
    go_wp2_with fail
    refine (specTblOk ac ar cc cr t _ HC.out HR.out).mono ?_
    rw [hv]
    rintro e w1 ⟨rfl, hb1⟩
    obtain ⟨m0, m1, m2, m3, m4⟩ := fiveO ((hb1.block w.heap.size (by simp)).trans (newestO _ _))
    have K1 := Hid.intro (k_trans K0.out hb1)
    clear hb1
    go_wp2_with (first | (go_at_call 25; refine (l1In_any _ _ _ _).mono ?_; rintro e w' ⟨rfl, rfl⟩) | go_in)
    go_ret
    exact ⟨retIP HF.out.symm, by repeat (first | exact K1.out | refine k_alloc ?_ _)⟩
  · have HF : Hid (partOf t q = 1) := Hid.intro (by rw [HP.out, if_neg h1, if_neg h2])
    go_enter Try.func9, Try.ntmps9
    go_wp2_with fail
    refine (specTblOk ac ar cc cr t _ HC.out HR.out).mono ?_
    rw [hv]
    rintro e w1 ⟨rfl, hb1⟩
    obtain ⟨m0, m1, m2, m3, m4⟩ := fiveO ((hb1.block w.heap.size (by simp)).trans (newestO _ _))
    have K1 := Hid.intro (k_trans K0.out hb1)
    clear hb1
    go_wp2_with (first | (go_at_call 25; refine (l1In_any _ _ _ _).mono ?_; rintro e w' ⟨rfl, rfl⟩) | go_in)
    go_ret
    exact ⟨retIP HF.out.symm, by repeat (first | exact K1.out | refine k_alloc ?_ _)⟩
end Go.Proofs.Ytfkfgmfahoeaoab
