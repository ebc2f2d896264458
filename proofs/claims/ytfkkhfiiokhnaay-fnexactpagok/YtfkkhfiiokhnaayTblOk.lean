/-
  PROVED HERE: what the program's TblOk answers at a table that lies in memory: one Bool; nothing that was in memory is turned.
-/
import Derived.Test.YtfkkhfiiokhnaayTblOkI
namespace Go.Proofs.Ytfkkhfiiokhnaay
open Go.RowKit

set_option maxRecDepth 100000 in
set_option maxHeartbeats 2000000 in
theorem implTblOk (ac ar : Option Addr) (cc cr : Nat) (t : T) (w : World) {z : Nat} (hc : ColsAt w z (.slice ac t.cols.length cc) t.cols) (hr : RowsAt w z (.slice ar t.rows.length cr) t.rows) :
    Calls Try.prog 45 #[.agg #[.slice ac t.cols.length cc, .int .i64 t.head, .int .i64 t.foot, .slice ar t.rows.length cr, .int .i64 t.gap]] w fun e w' => e = .returned (.bool (tblB t)) ∧ Below w.heap.size w w' := by
  have HC := Hid.intro hc
  have HR := Hid.intro hr
  clear hc hr
  have K0 := Hid.intro (k_alloc (Below.refl w.heap.size w) (.cells #[.slice ac t.cols.length cc, .int .i64 t.head, .int .i64 t.foot, .slice ar t.rows.length cr, .int .i64 t.gap] 32))
  cases h0 : inB t.rows.length 1 8
  · skip
    have HF : Hid (tblB t = false) := Hid.intro (by simp [tblB, h0])
    go_enter Try.func45, Try.ntmps45
    go_wp2_with (go_at_call 33; refine (within_any _ _ _ _).mono ?_; rintro e w' ⟨rfl, rfl⟩)
    go_ret
    exact ⟨retB HF.out.symm, k_alloc (Below.refl _ _) _⟩
  cases h1 : partsB t.rows.length t.head t.foot
  · skip
    have HF : Hid (tblB t = false) := Hid.intro (by simp [tblB, h0, h1])
    have hN : 0 ≤ ((t.rows.length : Nat) : Int) - 1 ∧ ((t.rows.length : Nat) : Int) ≤ 8 := by have := of_decide_eq_true h0; omega
    go_enter Try.func45, Try.ntmps45
    go_wp2_with (go_at_call 33; refine (within_any _ _ _ _).mono ?_; rintro e w' ⟨rfl, rfl⟩)
    refine (partsOk_any _ ar t.rows.length cr t.head t.foot t.gap ac t.cols.length cc rfl (by omega) _).mono ?_
    rw [h1]
    rintro e w1 ⟨rfl, hb1⟩
    obtain ⟨m0, m1, m2, m3, m4⟩ := fiveO ((hb1.block w.heap.size (by simp)).trans (newestO _ _))
    have K1 := Hid.intro (k_trans K0.out hb1)
    have L1 := Hid.intro hb1
    clear hb1
    go_wp2_with (go_at_call 33; refine (within_any _ _ _ _).mono ?_; rintro e w' ⟨rfl, rfl⟩)
    go_ret
    exact ⟨retB HF.out.symm, K1.out⟩
  cases h2 : inB t.gap 0 3
  · skip
    have HF : Hid (tblB t = false) := Hid.intro (by simp [tblB, h0, h1, h2])
    have hN : 0 ≤ ((t.rows.length : Nat) : Int) - 1 ∧ ((t.rows.length : Nat) : Int) ≤ 8 := by have := of_decide_eq_true h0; omega
    go_enter Try.func45, Try.ntmps45
    go_wp2_with (go_at_call 33; refine (within_any _ _ _ _).mono ?_; rintro e w' ⟨rfl, rfl⟩)
    refine (partsOk_any _ ar t.rows.length cr t.head t.foot t.gap ac t.cols.length cc rfl (by omega) _).mono ?_
    rw [h1]
    rintro e w1 ⟨rfl, hb1⟩
    obtain ⟨m0, m1, m2, m3, m4⟩ := fiveO ((hb1.block w.heap.size (by simp)).trans (newestO _ _))
    have K1 := Hid.intro (k_trans K0.out hb1)
    have L1 := Hid.intro hb1
    clear hb1
    go_wp2_with (go_at_call 33; refine (within_any _ _ _ _).mono ?_; rintro e w' ⟨rfl, rfl⟩)
    go_ret
    exact ⟨retB HF.out.symm, K1.out⟩
  cases h3 : colsB t.cols
  · skip
    have HF : Hid (tblB t = false) := Hid.intro (by simp [tblB, h0, h1, h2, h3])
    have hN : 0 ≤ ((t.rows.length : Nat) : Int) - 1 ∧ ((t.rows.length : Nat) : Int) ≤ 8 := by have := of_decide_eq_true h0; omega
    go_enter Try.func45, Try.ntmps45
    go_wp2_with (go_at_call 33; refine (within_any _ _ _ _).mono ?_; rintro e w' ⟨rfl, rfl⟩)
    refine (partsOk_any _ ar t.rows.length cr t.head t.foot t.gap ac t.cols.length cc rfl (by omega) _).mono ?_
    rw [h1]
    rintro e w1 ⟨rfl, hb1⟩
    obtain ⟨m0, m1, m2, m3, m4⟩ := fiveO ((hb1.block w.heap.size (by simp)).trans (newestO _ _))
    have K1 := Hid.intro (k_trans K0.out hb1)
    have L1 := Hid.intro hb1
    clear hb1
    go_wp2_with (go_at_call 33; refine (within_any _ _ _ _).mono ?_; rintro e w' ⟨rfl, rfl⟩)
    refine (columnsOk_any _ t.cols _ (HC.out.kept K1.out)).mono ?_
    rw [h3]
    rintro e w2 ⟨rfl, hb2⟩
    obtain ⟨n0, n1, n2, n3, n4⟩ := fiveO (((k_trans L1.out hb2).block w.heap.size (by simp)).trans (newestO _ _))
    have K2 := Hid.intro (k_trans K1.out hb2)
    clear hb2
    go_wp2
    go_ret
    exact ⟨retB HF.out.symm, K2.out⟩
  have HF : Hid (tblB t = t.rows.all rowB) := Hid.intro (by simp [tblB, h0, h1, h2, h3])
  have hN : 0 ≤ ((t.rows.length : Nat) : Int) - 1 ∧ ((t.rows.length : Nat) : Int) ≤ 8 := by have := of_decide_eq_true h0; omega
  go_enter Try.func45, Try.ntmps45
  go_wp2_with (go_at_call 33; refine (within_any _ _ _ _).mono ?_; rintro e w' ⟨rfl, rfl⟩)
  refine (partsOk_any _ ar t.rows.length cr t.head t.foot t.gap ac t.cols.length cc rfl (by omega) _).mono ?_
  rw [h1]
  rintro e w1 ⟨rfl, hb1⟩
  obtain ⟨m0, m1, m2, m3, m4⟩ := fiveO ((hb1.block w.heap.size (by simp)).trans (newestO _ _))
  have K1 := Hid.intro (k_trans K0.out hb1)
  have L1 := Hid.intro hb1
  clear hb1
  go_wp2_with (go_at_call 33; refine (within_any _ _ _ _).mono ?_; rintro e w' ⟨rfl, rfl⟩)
  refine (columnsOk_any _ t.cols _ (HC.out.kept K1.out)).mono ?_
  rw [h3]
  rintro e w2 ⟨rfl, hb2⟩
  obtain ⟨n0, n1, n2, n3, n4⟩ := fiveO (((k_trans L1.out hb2).block w.heap.size (by simp)).trans (newestO _ _))
  have K2 := Hid.intro (k_trans K1.out hb2)
  clear hb2
  go_wp2_with fail
  refine (rowsOk_any _ t.rows _ (HR.out.kept K2.out)).mono ?_
  rintro e w3 ⟨rfl, hb3⟩
  have K3 := Hid.intro (k_trans K2.out hb3)
  clear hb3
  go_wp2
  go_ret
  exact ⟨retB HF.out.symm, K3.out⟩
end Go.Proofs.Ytfkkhfiiokhnaay
