/-
  PROVED HERE: what the program's saidOf and ColSaid and the model's l5Said and ColSaid answer at a table that lies in memory, at every number of a column; nothing that was in memory is turned.
-/
import Derived.Test.YtgcobajekffmoavTblOk
import Derived.Test.YtgcobajekffmoavTblOkS
import Derived.Test.YtgcobajekffmoavMem
namespace Go.Proofs.Ytgcobajekffmoav
open Go.RowKit

/-- what is said of a column -/
def sd (ps : List (Int × Int)) (q : Int) : Int × Int := if inB q 0 (ps.length - 1) = true then ps.getD q.toNat (0, 0) else (0, 0)
theorem sd_no {ps : List (Int × Int)} {q : Int} (h : inB q 0 (ps.length - 1) = false) : sd ps q = (0, 0) := by unfold sd; rw [if_neg (by rw [h]; simp)]
theorem sd_yes {ps : List (Int × Int)} {k : Nat} (h : k < ps.length) : sd ps k = ps.getD k (0, 0) := by unfold sd; rw [if_pos (inB_true (by omega) (by omega)), Int.toNat_natCast]
def sdT (t : T) (q : Int) : Int × Int := if tblB t = true then sd t.cols q else (0, 0)

set_option maxRecDepth 100000 in
set_option maxHeartbeats 1000000 in
theorem implsaidOf (v : Value) (ps : List (Int × Int)) (q : Int) (w : World) {z : Nat} (h : ColsAt w z v ps) :
    Calls Try.prog 36 #[v, .int .i64 q] w fun e w' => e = .returned (.agg #[.int .i64 (sd ps q).1, .int .i64 (sd ps q).2]) ∧ Below w.heap.size w w' := by
  obtain ⟨a, cap, rfl, hlen⟩ := At.form h
  have HI := Hid.intro (within_any q 0 ((ps.length : Int) - 1))
  unfold maxLen at hlen
  cases hin : inB q 0 ((ps.length : Int) - 1) with
  | false =>
    rw [hin] at HI
    rw [sd_no hin]
    clear hin h
    go_enter Try.func36, Try.ntmps36
    go_wp2_with fail
    refine (HI.out _).mono ?_
    rintro e w1 ⟨rfl, rfl⟩
    go_wp2
    exact bodyPost_ret (v := .agg #[.int .i64 0, .int .i64 0]) (by simp [results, Try.results36, go_sem]) rfl ⟨rfl, by repeat (first | exact Below.refl _ _ | apply k_alloc)⟩
  | true =>
    rw [hin] at HI
    have hk : 0 ≤ q ∧ q ≤ (ps.length : Int) - 1 := by simpa [inB] using hin
    clear hin
    obtain ⟨k, rfl⟩ := Int.eq_ofNat_of_zero_le hk.1
    have hkl : k < ps.length := by omega
    rw [sd_yes hkl]
    obtain ⟨b, off, cap', e', hc1, hc2, hbl, hx0, hx1⟩ := At.get h hkl
    simp only [Value.slice.injEq, true_and] at e'
    obtain ⟨rfl, rfl⟩ := e'
    unfold maxLen at hc2
    generalize ps.getD k (0, 0) = p at hx0 hx1 ⊢
    clear h
    go_enter Try.func36, Try.ntmps36
    go_wp2_with fail
    refine (HI.out _).mono ?_
    rintro e w1 ⟨rfl, rfl⟩
    go_wp2
    exact bodyPost_ret (v := .agg #[.int .i64 p.1, .int .i64 p.2]) (by simp [results, Try.results36, go_sem]) rfl ⟨rfl, by repeat (first | exact Below.refl _ _ | apply k_alloc)⟩

set_option maxRecDepth 100000 in
set_option maxHeartbeats 1000000 in
theorem implColSaid (ac ar : Option Addr) (cc cr : Nat) (t : T) (q : Int) (w : World) {z : Nat} (hc : ColsAt w z (.slice ac t.cols.length cc) t.cols) (hr : RowsAt w z (.slice ar t.rows.length cr) t.rows) :
    Calls Try.prog 13 #[.agg #[.slice ac t.cols.length cc, .int .i64 t.head, .int .i64 t.foot, .slice ar t.rows.length cr, .int .i64 t.gap], .int .i64 q] w fun e w' => e = .returned (.agg #[.int .i64 (sdT t q).1, .int .i64 (sdT t q).2]) ∧ Below w.heap.size w w' := by
  obtain ⟨W0, hW0⟩ : ∃ W0, (w.alloc (.cells #[.slice ac t.cols.length cc, .int .i64 t.head, .int .i64 t.foot, .slice ar t.rows.length cr, .int .i64 t.gap] 31)).alloc (.cells #[.int .i64 0, .int .i64 0] 36) = W0 := ⟨_, rfl⟩
  have K0 : Below w.heap.size w W0 := by rw [← hW0]; exact k_alloc (k_alloc (Below.refl _ _) _) _
  have T0 : W0.heap[w.heap.size]? = some (.cells #[.slice ac t.cols.length cc, .int .i64 t.head, .int .i64 t.foot, .slice ar t.rows.length cr, .int .i64 t.gap] 31) := by rw [← hW0]; exact (Below.heap_alloc _ _ _ (by simp)).trans (newestB _ _)
  have X0 : W0.heap[w.heap.size + 1]? = some (.cells #[.int .i64 0, .int .i64 0] 36) := by
    have := newestB (w.alloc (.cells #[.slice ac t.cols.length cc, .int .i64 t.head, .int .i64 t.foot, .slice ar t.rows.length cr, .int .i64 t.gap] 31)) (.cells #[.int .i64 0, .int .i64 0] 36)
    rw [hW0] at this
    simpa using this
  have KO := Hid.intro (implTblOk ac ar cc cr t W0 (hc.kept K0) (hr.kept K0))
  have HC := Hid.intro (hc.kept K0)
  have t0 : W0.cell? ⟨w.heap.size, 0, none⟩ = some (.slice ac t.cols.length cc) := cellB T0
  have t1 : W0.cell? ⟨w.heap.size, 1, none⟩ = some (.int .i64 t.head) := cellB T0
  have t2 : W0.cell? ⟨w.heap.size, 2, none⟩ = some (.int .i64 t.foot) := cellB T0
  have t3 : W0.cell? ⟨w.heap.size, 3, none⟩ = some (.slice ar t.rows.length cr) := cellB T0
  have t4 : W0.cell? ⟨w.heap.size, 4, none⟩ = some (.int .i64 t.gap) := cellB T0
  clear hc hr
  cases htk : tblB t with
  | false =>
    rw [htk] at KO
    have hv : sdT t q = (0, 0) := by unfold sdT; rw [if_neg (by rw [htk]; simp)]
    rw [hv]
    clear htk hv
    go_enter Try.func13, Try.ntmps13
    go_wp2_with fail
    refine KO.out.mono ?_
    rintro e w1 ⟨rfl, hb1⟩
    have X1 := (hb1.block (w.heap.size + 1) (Array.getElem?_eq_some_iff.1 X0).1).trans X0
    have x0 : w1.cell? ⟨w.heap.size + 1, 0, none⟩ = some (.int .i64 0) := cellB X1
    have x1 : w1.cell? ⟨w.heap.size + 1, 1, none⟩ = some (.int .i64 0) := cellB X1
    have y0 : w1.frozen? ⟨w.heap.size + 1, 0, none⟩ = false := freeB X1
    have y1 : w1.frozen? ⟨w.heap.size + 1, 1, none⟩ = false := freeB X1
    have HB := Hid.intro (k_set (k_set (k_trans K0 hb1) (p := ⟨w.heap.size + 1, 0, none⟩) (by show _ ≤ w.heap.size + 1; omega) (.int .i64 0)) (p := ⟨w.heap.size + 1, 1, none⟩) (by show _ ≤ w.heap.size + 1; omega) (.int .i64 0))
    clear hb1 X1 KO HC K0 T0 X0 hW0 t0 t1 t2 t3 t4
    go_wp2
    exact bodyPost_ret (v := .agg #[.int .i64 0, .int .i64 0]) (by simp [results, Try.results13, go_sem, x0, x1]) rfl ⟨rfl, HB.out⟩
  | true =>
    rw [htk] at KO
    have hv : sdT t q = sd t.cols q := by unfold sdT; rw [if_pos htk]
    rw [hv]
    clear htk hv
    go_enter Try.func13, Try.ntmps13
    go_wp2_with fail
    refine KO.out.mono ?_
    rintro e w1 ⟨rfl, hb1⟩
    have X1 := (hb1.block (w.heap.size + 1) (Array.getElem?_eq_some_iff.1 X0).1).trans X0
    have T1 := (hb1.block w.heap.size (Array.getElem?_eq_some_iff.1 T0).1).trans T0
    have s0 : w1.cell? ⟨w.heap.size, 0, none⟩ = some (.slice ac t.cols.length cc) := cellB T1
    have K1 := Hid.intro (k_trans K0 hb1)
    have C1 := Hid.intro (HC.out.kept hb1)
    have HX1 := Hid.intro X1
    clear hb1 KO HC K0 T0 X0 X1 T1 hW0 t0 t1 t2 t3 t4
    go_wp2_with fail
    refine (implsaidOf _ _ q w1 C1.out).mono ?_
    rintro e w2 ⟨rfl, hb2⟩
    have X2 := (hb2.block (w.heap.size + 1) (Array.getElem?_eq_some_iff.1 HX1.out).1).trans HX1.out
    obtain ⟨p, hp⟩ : ∃ p, sd t.cols q = p := ⟨_, rfl⟩
    have HP := Hid.intro hp
    rw [hp]
    clear hp
    have x0 : w2.cell? ⟨w.heap.size + 1, 0, none⟩ = some (.int .i64 0) := cellB X2
    have x1 : w2.cell? ⟨w.heap.size + 1, 1, none⟩ = some (.int .i64 0) := cellB X2
    have y0 : w2.frozen? ⟨w.heap.size + 1, 0, none⟩ = false := freeB X2
    have y1 : w2.frozen? ⟨w.heap.size + 1, 1, none⟩ = false := freeB X2
    have HB := Hid.intro (k_set (k_set (k_trans K1.out hb2) (p := ⟨w.heap.size + 1, 0, none⟩) (by show _ ≤ w.heap.size + 1; omega) (.int .i64 p.1)) (p := ⟨w.heap.size + 1, 1, none⟩) (by show _ ≤ w.heap.size + 1; omega) (.int .i64 p.2))
    clear hb2 X2 K1 C1 HX1 s0
    go_wp2
    exact bodyPost_ret (v := .agg #[.int .i64 p.1, .int .i64 p.2]) (by simp [results, Try.results13, go_sem, x0, x1]) rfl ⟨by rw [HP.out], HB.out⟩

set_option maxRecDepth 100000 in
set_option maxHeartbeats 1000000 in
theorem specl5Said (ac ar : Option Addr) (cc cr : Nat) (t : T) (q : Int) (hq : 0 ≤ q) (w : World) {z : Nat} (hc : ColsAt w z (.slice ac t.cols.length cc) t.cols) :
    Calls Try.prog 34 #[.agg #[.slice ac t.cols.length cc, .int .i64 t.head, .int .i64 t.foot, .slice ar t.rows.length cr, .int .i64 t.gap], .int .i64 q] w fun e w' => e = .returned (.agg #[.int .i64 (sd t.cols q).1, .int .i64 (sd t.cols q).2]) ∧ Below w.heap.size w w' := by
  obtain ⟨_, _, _, hlen⟩ := At.form hc
  unfold maxLen at hlen
  obtain ⟨k, rfl⟩ := Int.eq_ofNat_of_zero_le hq
  by_cases hkl : k < t.cols.length
  · rw [sd_yes hkl]
    have hlt : (k : Int) < (t.cols.length : Int) := by omega
    obtain ⟨b, off, cap', e', hc1, hc2, hbl, hx0, hx1⟩ := At.get hc hkl
    simp only [Value.slice.injEq, true_and] at e'
    obtain ⟨rfl, rfl⟩ := e'
    unfold maxLen at hc2
    generalize t.cols.getD k (0, 0) = p at hx0 hx1 ⊢
    clear hc
    go_enter Try.func34, Try.ntmps34
    go_wp2
    exact bodyPost_ret (v := .agg #[.int .i64 p.1, .int .i64 p.2]) (by simp [results, Try.results34, go_sem]) rfl ⟨rfl, by repeat (first | exact Below.refl _ _ | apply k_alloc)⟩
  · rw [sd_no (inB_false (by omega))]
    have hlt : ¬ (k : Int) < (t.cols.length : Int) := by omega
    clear hc
    go_enter Try.func34, Try.ntmps34
    go_wp2
    exact bodyPost_ret (v := .agg #[.int .i64 0, .int .i64 0]) (by simp [results, Try.results34, go_sem]) rfl ⟨rfl, by repeat (first | exact Below.refl _ _ | apply k_alloc)⟩

set_option maxRecDepth 100000 in
set_option maxHeartbeats 1000000 in
theorem specColSaid (ac ar : Option Addr) (cc cr : Nat) (t : T) (q : Int) (w : World) {z : Nat} (hc : ColsAt w z (.slice ac t.cols.length cc) t.cols) (hr : RowsAt w z (.slice ar t.rows.length cr) t.rows) :
    Calls Try.prog 12 #[.agg #[.slice ac t.cols.length cc, .int .i64 t.head, .int .i64 t.foot, .slice ar t.rows.length cr, .int .i64 t.gap], .int .i64 q] w fun e w' => e = .returned (.agg #[.int .i64 (sdT t q).1, .int .i64 (sdT t q).2]) ∧ Below w.heap.size w w' := by
  obtain ⟨W0, hW0⟩ : ∃ W0, (w.alloc (.cells #[.slice ac t.cols.length cc, .int .i64 t.head, .int .i64 t.foot, .slice ar t.rows.length cr, .int .i64 t.gap] 31)).alloc (.cells #[.int .i64 0, .int .i64 0] 36) = W0 := ⟨_, rfl⟩
  have K0 : Below w.heap.size w W0 := by rw [← hW0]; exact k_alloc (k_alloc (Below.refl _ _) _) _
  have T0 : W0.heap[w.heap.size]? = some (.cells #[.slice ac t.cols.length cc, .int .i64 t.head, .int .i64 t.foot, .slice ar t.rows.length cr, .int .i64 t.gap] 31) := by rw [← hW0]; exact (Below.heap_alloc _ _ _ (by simp)).trans (newestB _ _)
  have X0 : W0.heap[w.heap.size + 1]? = some (.cells #[.int .i64 0, .int .i64 0] 36) := by
    have := newestB (w.alloc (.cells #[.slice ac t.cols.length cc, .int .i64 t.head, .int .i64 t.foot, .slice ar t.rows.length cr, .int .i64 t.gap] 31)) (.cells #[.int .i64 0, .int .i64 0] 36)
    rw [hW0] at this
    simpa using this
  have KO := Hid.intro (specTblOk ac ar cc cr t W0 (hc.kept K0) (hr.kept K0))
  have HC := Hid.intro (hc.kept K0)
  have t0 : W0.cell? ⟨w.heap.size, 0, none⟩ = some (.slice ac t.cols.length cc) := cellB T0
  have t1 : W0.cell? ⟨w.heap.size, 1, none⟩ = some (.int .i64 t.head) := cellB T0
  have t2 : W0.cell? ⟨w.heap.size, 2, none⟩ = some (.int .i64 t.foot) := cellB T0
  have t3 : W0.cell? ⟨w.heap.size, 3, none⟩ = some (.slice ar t.rows.length cr) := cellB T0
  have t4 : W0.cell? ⟨w.heap.size, 4, none⟩ = some (.int .i64 t.gap) := cellB T0
  clear hc hr
  cases htk : tblB t with
  | false =>
    rw [htk] at KO
    have hv : sdT t q = (0, 0) := by unfold sdT; rw [if_neg (by rw [htk]; simp)]
    rw [hv]
    clear htk hv
    go_enter Try.func12, Try.ntmps12
    go_wp2_with fail
    refine KO.out.mono ?_
    rintro e w1 ⟨rfl, hb1⟩
    have X1 := (hb1.block (w.heap.size + 1) (Array.getElem?_eq_some_iff.1 X0).1).trans X0
    have x0 : w1.cell? ⟨w.heap.size + 1, 0, none⟩ = some (.int .i64 0) := cellB X1
    have x1 : w1.cell? ⟨w.heap.size + 1, 1, none⟩ = some (.int .i64 0) := cellB X1
    have y0 : w1.frozen? ⟨w.heap.size + 1, 0, none⟩ = false := freeB X1
    have y1 : w1.frozen? ⟨w.heap.size + 1, 1, none⟩ = false := freeB X1
    have HB := Hid.intro (k_set (k_set (k_trans K0 hb1) (p := ⟨w.heap.size + 1, 0, none⟩) (by show _ ≤ w.heap.size + 1; omega) (.int .i64 0)) (p := ⟨w.heap.size + 1, 1, none⟩) (by show _ ≤ w.heap.size + 1; omega) (.int .i64 0))
    clear hb1 X1 KO HC K0 T0 X0 hW0 t0 t1 t2 t3 t4
    go_wp2
    exact bodyPost_ret (v := .agg #[.int .i64 0, .int .i64 0]) (by simp [results, Try.results12, go_sem, x0, x1]) rfl ⟨rfl, HB.out⟩
  | true =>
    by_cases hq0 : 0 ≤ q
    case pos =>
      rw [htk] at KO
      have hv : sdT t q = sd t.cols q := by unfold sdT; rw [if_pos htk]
      rw [hv]
      clear htk hv
      go_enter Try.func12, Try.ntmps12
      go_wp2_with fail
      refine KO.out.mono ?_
      rintro e w1 ⟨rfl, hb1⟩
      have X1 := (hb1.block (w.heap.size + 1) (Array.getElem?_eq_some_iff.1 X0).1).trans X0
      have T1 := (hb1.block w.heap.size (Array.getElem?_eq_some_iff.1 T0).1).trans T0
      have s0 : w1.cell? ⟨w.heap.size, 0, none⟩ = some (.slice ac t.cols.length cc) := cellB T1
      have s1 : w1.cell? ⟨w.heap.size, 1, none⟩ = some (.int .i64 t.head) := cellB T1
      have s2 : w1.cell? ⟨w.heap.size, 2, none⟩ = some (.int .i64 t.foot) := cellB T1
      have s3 : w1.cell? ⟨w.heap.size, 3, none⟩ = some (.slice ar t.rows.length cr) := cellB T1
      have s4 : w1.cell? ⟨w.heap.size, 4, none⟩ = some (.int .i64 t.gap) := cellB T1
      have K1 := Hid.intro (k_trans K0 hb1)
      have C1 := Hid.intro (HC.out.kept hb1)
      have HX1 := Hid.intro X1
      clear hb1 KO HC K0 T0 X0 X1 T1 hW0 t0 t1 t2 t3 t4
      go_wp2_with fail
      refine (specl5Said ac ar cc cr t q hq0 w1 C1.out).mono ?_
      rintro e w2 ⟨rfl, hb2⟩
      have X2 := (hb2.block (w.heap.size + 1) (Array.getElem?_eq_some_iff.1 HX1.out).1).trans HX1.out
      obtain ⟨p, hp⟩ : ∃ p, sd t.cols q = p := ⟨_, rfl⟩
      have HP := Hid.intro hp
      rw [hp]
      clear hp
      have x0 : w2.cell? ⟨w.heap.size + 1, 0, none⟩ = some (.int .i64 0) := cellB X2
      have x1 : w2.cell? ⟨w.heap.size + 1, 1, none⟩ = some (.int .i64 0) := cellB X2
      have y0 : w2.frozen? ⟨w.heap.size + 1, 0, none⟩ = false := freeB X2
      have y1 : w2.frozen? ⟨w.heap.size + 1, 1, none⟩ = false := freeB X2
      have HB := Hid.intro (k_set (k_set (k_trans K1.out hb2) (p := ⟨w.heap.size + 1, 0, none⟩) (by show _ ≤ w.heap.size + 1; omega) (.int .i64 p.1)) (p := ⟨w.heap.size + 1, 1, none⟩) (by show _ ≤ w.heap.size + 1; omega) (.int .i64 p.2))
      clear hb2 X2 K1 C1 HX1 s0 s1 s2 s3 s4
      go_wp2
      exact bodyPost_ret (v := .agg #[.int .i64 p.1, .int .i64 p.2]) (by simp [results, Try.results12, go_sem, x0, x1]) rfl ⟨by rw [HP.out], HB.out⟩
    case neg =>
      have hqn : q < 0 := by omega
      rw [htk] at KO
      have hv : sdT t q = (0, 0) := by unfold sdT; rw [if_pos htk, sd_no (inB_false (by omega))]
      rw [hv]
      clear htk hv
      go_enter Try.func12, Try.ntmps12
      go_wp2_with fail
      refine KO.out.mono ?_
      rintro e w1 ⟨rfl, hb1⟩
      have X1 := (hb1.block (w.heap.size + 1) (Array.getElem?_eq_some_iff.1 X0).1).trans X0
      have x0 : w1.cell? ⟨w.heap.size + 1, 0, none⟩ = some (.int .i64 0) := cellB X1
      have x1 : w1.cell? ⟨w.heap.size + 1, 1, none⟩ = some (.int .i64 0) := cellB X1
      have y0 : w1.frozen? ⟨w.heap.size + 1, 0, none⟩ = false := freeB X1
      have y1 : w1.frozen? ⟨w.heap.size + 1, 1, none⟩ = false := freeB X1
      have HB := Hid.intro (k_set (k_set (k_trans K0 hb1) (p := ⟨w.heap.size + 1, 0, none⟩) (by show _ ≤ w.heap.size + 1; omega) (.int .i64 0)) (p := ⟨w.heap.size + 1, 1, none⟩) (by show _ ≤ w.heap.size + 1; omega) (.int .i64 0))
      clear hb1 X1 KO HC K0 T0 X0 hW0 t0 t1 t2 t3 t4
      go_wp2
      exact bodyPost_ret (v := .agg #[.int .i64 0, .int .i64 0]) (by simp [results, Try.results12, go_sem, x0, x1]) rfl ⟨rfl, HB.out⟩
end Go.Proofs.Ytgcobajekffmoav
