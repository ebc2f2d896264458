/-
  PROVED HERE: what the program's boundsOk and cellFits answer; nothing that was in memory is turned. Also: what the program's takersOf and GrdOk answer at a grid that lies in memory; nothing that was in memory is turned. Also: small facts for the program's GrdOf: partEnd; the map of slots beside a grid of the call's own.
-/
import Derived.Test.YtgcobajekffmoabB18
namespace Go.Proofs.Ytgcobajekffmoab
open Go.RowKit

set_option maxRecDepth 100000 in
set_option maxHeartbeats 1000000 in
theorem boundsOk_any (R C : Int) (ac : Option Addr) (n cc : Nat) (w : World) :
    Calls Try.prog 50 #[.agg #[.int .i64 R, .int .i64 C, .slice ac n cc]] w fun e w' => e = .returned (.bool (boundsB R C n)) ∧ Below w.heap.size w w' := by
  cases h1 : inB R 1 8 with
  | false =>
    have HE : Hid (boundsB R C n = false) := by simp only [boundsB, h1, Bool.false_and]; exact trivial
    have K1 := Hid.intro (within_any R 1 8)
    rw [h1] at K1
    go_enter Try.func50, Try.ntmps50
    go_wp2_with fail
    refine (K1.out _).mono ?_
    rintro e w1 ⟨rfl, rfl⟩
    go_wp2
    go_ret
    exact ⟨retB HE.out.symm, k_alloc (Below.refl _ _) _⟩
  | true =>
    cases h2 : inB C 1 94 with
    | false =>
      have HE : Hid (boundsB R C n = false) := by simp only [boundsB, h2, Bool.false_and, Bool.and_false]; exact trivial
      have K1 := Hid.intro (within_any R 1 8)
      have K2 := Hid.intro (within_any C 1 94)
      rw [h1] at K1
      rw [h2] at K2
      go_enter Try.func50, Try.ntmps50
      go_wp2_with fail
      refine (K1.out _).mono ?_
      rintro e w1 ⟨rfl, rfl⟩
      go_wp2_with fail
      refine (K2.out _).mono ?_
      rintro e w1 ⟨rfl, rfl⟩
      go_wp2
      go_ret
      exact ⟨retB HE.out.symm, k_alloc (Below.refl _ _) _⟩
    | true =>
      have HE : Hid (boundsB R C n = decide ((n : Int) ≤ 40)) := by
        show boundsB R C n = _
        simp only [boundsB, h1, h2, Bool.true_and]
        exact decide_eq_decide.2 (by omega)
      have K1 := Hid.intro (within_any R 1 8)
      have K2 := Hid.intro (within_any C 1 94)
      rw [h1] at K1
      rw [h2] at K2
      go_enter Try.func50, Try.ntmps50
      go_wp2_with fail
      refine (K1.out _).mono ?_
      rintro e w1 ⟨rfl, rfl⟩
      go_wp2_with fail
      refine (K2.out _).mono ?_
      rintro e w1 ⟨rfl, rfl⟩
      go_wp2
      go_ret
      exact ⟨retB HE.out.symm, k_alloc (Below.refl _ _) _⟩

set_option maxRecDepth 100000 in
set_option maxHeartbeats 2000000 in
theorem cellFits_any (R C : Int) (v : Value) (x : GC) (hx : GOk x) (hR : 1 ≤ R ∧ R ≤ 8) (hC : 1 ≤ C ∧ C ≤ 94) (w : World) :
    Calls Try.prog 51 #[.agg #[.int .i64 R, .int .i64 C, v], .agg #[.int .i64 x.row, .int .i64 x.col, .int .i64 x.rows, .int .i64 x.cols, .int .i64 x.ins]] w fun e w' => e = .returned (.bool (fitsB R C x)) ∧ Below w.heap.size w w' := by
  obtain ⟨b0, b1, b2, b3, b4⟩ := hx
  unfold I64 at b0 b1 b2 b3 b4
  have K1 := Hid.intro (within_any x.row 0 (R - 1))
  have K2 := Hid.intro (within_any x.rows 1 (R - x.row))
  have K3 := Hid.intro (within_any x.col 0 (C - 1))
  have K4 := Hid.intro (within_any x.cols 1 (C - x.col))
  have K5 := Hid.intro (within_any x.ins 0 4)
  have p1 : IntKind.i64.wrap (R - 1) = R - 1 := by rw [IntKind.wrap_i64]; omega
  have p3 : IntKind.i64.wrap (C - 1) = C - 1 := by rw [IntKind.wrap_i64]; omega
  cases h1 : inB x.row 0 (R - 1) with
  | false =>
    rw [h1] at K1
    have HE : Hid (fitsB R C x = false) := by
      show fitsB R C x = false
      simp only [fitsB, h1, Bool.false_and]
    go_enter Try.func51, Try.ntmps51
    go_wp2_with fail
    refine (K1.out _).mono ?_
    rintro e w1 ⟨rfl, rfl⟩
    go_wp2
    go_ret
    exact ⟨retB HE.out.symm, k_alloc (k_alloc (Below.refl _ _) _) _⟩
  | true =>
    rw [h1] at K1
    have p2 : IntKind.i64.wrap (R - x.row) = R - x.row := by
      have := of_decide_eq_true h1
      rw [IntKind.wrap_i64]; omega
    cases h2 : inB x.rows 1 (R - x.row) with
    | false =>
      rw [h2] at K2
      have HE : Hid (fitsB R C x = false) := by
        show fitsB R C x = false
        simp only [fitsB, h2, Bool.false_and, Bool.and_false]
      go_enter Try.func51, Try.ntmps51
      go_wp2_with fail
      refine (K1.out _).mono ?_
      rintro e w1 ⟨rfl, rfl⟩
      go_wp2_with fail
      refine (K2.out _).mono ?_
      rintro e w1 ⟨rfl, rfl⟩
      go_wp2
      go_ret
      exact ⟨retB HE.out.symm, k_alloc (k_alloc (Below.refl _ _) _) _⟩
    | true =>
      rw [h2] at K2
      cases h3 : inB x.col 0 (C - 1) with
      | false =>
        rw [h3] at K3
        have HE : Hid (fitsB R C x = false) := by
          show fitsB R C x = false
          simp only [fitsB, h3, Bool.false_and, Bool.and_false]
        go_enter Try.func51, Try.ntmps51
        go_wp2_with fail
        refine (K1.out _).mono ?_
        rintro e w1 ⟨rfl, rfl⟩
        go_wp2_with fail
        refine (K2.out _).mono ?_
        rintro e w1 ⟨rfl, rfl⟩
        go_wp2_with fail
        refine (K3.out _).mono ?_
        rintro e w1 ⟨rfl, rfl⟩
        go_wp2
        go_ret
        exact ⟨retB HE.out.symm, k_alloc (k_alloc (Below.refl _ _) _) _⟩
      | true =>
        rw [h3] at K3
        have p4 : IntKind.i64.wrap (C - x.col) = C - x.col := by
          have := of_decide_eq_true h3
          rw [IntKind.wrap_i64]; omega
        cases h4 : inB x.cols 1 (C - x.col) with
        | false =>
          rw [h4] at K4
          have HE : Hid (fitsB R C x = false) := by
            show fitsB R C x = false
            simp only [fitsB, h4, Bool.false_and, Bool.and_false]
          go_enter Try.func51, Try.ntmps51
          go_wp2_with fail
          refine (K1.out _).mono ?_
          rintro e w1 ⟨rfl, rfl⟩
          go_wp2_with fail
          refine (K2.out _).mono ?_
          rintro e w1 ⟨rfl, rfl⟩
          go_wp2_with fail
          refine (K3.out _).mono ?_
          rintro e w1 ⟨rfl, rfl⟩
          go_wp2_with fail
          refine (K4.out _).mono ?_
          rintro e w1 ⟨rfl, rfl⟩
          go_wp2
          go_ret
          exact ⟨retB HE.out.symm, k_alloc (k_alloc (Below.refl _ _) _) _⟩
        | true =>
          rw [h4] at K4
          cases h5 : inB x.ins 0 4 with
          | false =>
            rw [h5] at K5
            have HE : Hid (fitsB R C x = false) := by
              show fitsB R C x = false
              simp only [fitsB, h5, Bool.and_false]
            go_enter Try.func51, Try.ntmps51
            go_wp2_with fail
            refine (K1.out _).mono ?_
            rintro e w1 ⟨rfl, rfl⟩
            go_wp2_with fail
            refine (K2.out _).mono ?_
            rintro e w1 ⟨rfl, rfl⟩
            go_wp2_with fail
            refine (K3.out _).mono ?_
            rintro e w1 ⟨rfl, rfl⟩
            go_wp2_with fail
            refine (K4.out _).mono ?_
            rintro e w1 ⟨rfl, rfl⟩
            go_wp2_with fail
            refine (K5.out _).mono ?_
            rintro e w1 ⟨rfl, rfl⟩
            go_wp2
            go_ret
            exact ⟨retB HE.out.symm, k_alloc (k_alloc (Below.refl _ _) _) _⟩
          | true =>
            rw [h5] at K5
            have HE : Hid (fitsB R C x = true) := by
              show fitsB R C x = true
              simp only [fitsB, h1, h2, h3, h4, h5, Bool.and_self]
            go_enter Try.func51, Try.ntmps51
            go_wp2_with fail
            refine (K1.out _).mono ?_
            rintro e w1 ⟨rfl, rfl⟩
            go_wp2_with fail
            refine (K2.out _).mono ?_
            rintro e w1 ⟨rfl, rfl⟩
            go_wp2_with fail
            refine (K3.out _).mono ?_
            rintro e w1 ⟨rfl, rfl⟩
            go_wp2_with fail
            refine (K4.out _).mono ?_
            rintro e w1 ⟨rfl, rfl⟩
            go_wp2_with fail
            refine (K5.out _).mono ?_
            rintro e w1 ⟨rfl, rfl⟩
            go_wp2
            go_ret
            exact ⟨retB HE.out.symm, k_alloc (k_alloc (Below.refl _ _) _) _⟩
end Go.Proofs.Ytgcobajekffmoab
namespace Go.Proofs.Ytgcobajekffmoab
open Go.RowKit

theorem allFreeG {R C : Int} {x : GC} (hf : fitsB R C x = true) (hR : R ≤ 8) (hC : C ≤ 94) (w : World) (B : Nat) (L : List (Nat × Nat)) (hT : TakAt w B L) :
    Calls Try.prog 34 #[.map (some B), .agg #[.int .i64 x.row, .int .i64 x.col, .int .i64 x.rows, .int .i64 x.cols, .int .i64 x.ins]] w fun e w' => e = .returned (.bool (freeIn L x.row.toNat x.col.toNat x.rows.toNat x.cols.toNat)) ∧ Below w.heap.size w w' := by
  obtain ⟨e1, e2, e3, e4, h1, h2, h3, h4⟩ := fits_of hf
  have h := allFree_any x.row.toNat x.col.toNat x.rows.toNat x.cols.toNat x.ins (by omega) (by omega) w B L hT
  unfold gcV at h
  rw [← e1, ← e2, ← e3, ← e4] at h
  exact h
theorem takeG {R C : Int} {x : GC} (hf : fitsB R C x = true) (hR : R ≤ 8) (hC : C ≤ 94) (w : World) (B : Nat) (L : List (Nat × Nat)) (hT : TakAt w B L) (hL : L.length ≤ 40 * 752) :
    Calls Try.prog 35 #[.map (some B), .agg #[.int .i64 x.row, .int .i64 x.col, .int .i64 x.rows, .int .i64 x.cols, .int .i64 x.ins]] w fun e w' => (∃ v, e = .returned v) ∧ TakAt w' B (L ++ (slotsG x).map (·.1)) ∧ w.grownBy w' (some B) := by
  have hl := slotsG_len hf hR hC
  obtain ⟨e1, e2, e3, e4, h1, h2, h3, h4⟩ := fits_of hf
  have h := take_any x.row.toNat x.col.toNat x.rows.toNat x.cols.toNat x.ins (by omega) (by omega) w B L hT (by show _ + (slotsG x).length < _; omega)
  unfold gcV at h
  rw [← e1, ← e2, ← e3, ← e4] at h
  exact h
/-- what takersOf hands back -/
def TakOut (g : G) (w : World) (e : Ending) (w' : World) : Prop :=
  (okB g = false ∧ e = .returned (.tuple #[.map none, .bool false])) ∨ (okB g = true ∧ ∃ B, w.heap.size ≤ B ∧ e = .returned (.tuple #[.map (some B), .bool true]) ∧ TakAt w' B (takenBy g.cells))

set_option maxRecDepth 100000 in
set_option maxHeartbeats 2000000 in
theorem takersOf_any (R C : Int) (ac : Option Addr) (cc : Nat) (gs : List GC) (w : World) {z : Nat} (h : GsAt w z (.slice ac gs.length cc) gs) :
    Calls Try.prog 37 #[.agg #[.int .i64 R, .int .i64 C, .slice ac gs.length cc]] w fun e w' => TakOut ⟨R, C, gs⟩ w e w' ∧ Below w.heap.size w w' := by
  obtain ⟨_, _, _, hlen⟩ := At.form h
  unfold maxLen at hlen
  have H := Hid.intro h
  clear h
  have hmm := @run_makeMap Try.prog
  have KB := Hid.intro (boundsOk_any R C ac gs.length cc)
  cases hb : boundsB R C gs.length with
  | false =>
    rw [hb] at KB
    have HF : Hid (okB ⟨R, C, gs⟩ = false) := okB_false1 hb
    go_enter Try.func37, Try.ntmps37
    go_wp2_with fail
    refine (KB.out _).mono ?_
    rintro e w1 ⟨rfl, hb1⟩
    have K1 := Hid.intro (k_trans (k_alloc (Below.refl w.heap.size w) (.cells #[.int .i64 R, .int .i64 C, .slice ac gs.length cc] 39)) hb1)
    clear hb1
    go_wp2
    refine bodyPost_ret (results_tmp2 rfl _ _ _) rfl ?_
    exact ⟨.inl ⟨HF.out, rfl⟩, K1.out⟩
  | true =>
    rw [hb] at KB
    obtain ⟨hR1, hR2, hC1, hC2, hn⟩ := bounds_of hb
    have HBB := Hid.intro hb
    clear hb
    go_enter Try.func37, Try.ntmps37
    go_wp2_with fail
    refine (KB.out _).mono ?_
    rintro e w1 ⟨rfl, hb1⟩
    have K1 := Hid.intro (k_trans (k_alloc (Below.refl w.heap.size w) (.cells #[.int .i64 R, .int .i64 C, .slice ac gs.length cc] 39)) hb1)
    have X1 := Hid.intro ((hb1.block w.heap.size (by simp)).trans (newestB _ _))
    have hs1 : w.heap.size < w1.heap.size := by have := hb1.size; simp at this; omega
    clear hb1
    have g2 : w1.cell? ⟨w.heap.size, 2, none⟩ = some (.slice ac gs.length cc) := cellB X1.out
    go_wp2_with fail
    have hBz : w.heap.size ≠ w1.heap.size := by omega
    go_loopw [14] (fun i W => ∃ k : Nat, k ≤ gs.length ∧ i = .int .i64 k ∧ Hid (okTo R C gs k = true) ∧ Hid (TakAt W w1.heap.size (takenBy (gs.take k))) ∧ Hid (Below w.heap.size w W) ∧ Hid (W.heap[w.heap.size]? = some (.cells #[.int .i64 R, .int .i64 C, .slice ac gs.length cc] 39))) (fun i _ => gs.length - (intOf i).toNat)
    case atStart => exact ⟨0, Nat.zero_le _, rfl, okTo_zero _ _ _, TakAt.new w1, k_alloc K1.out _, (Below.heap_alloc _ _ _ hs1).trans X1.out⟩
    case round =>
      obtain ⟨k, hk, rfl, HO, HT, HB, HX⟩ := hrel
      have g0 : wr.cell? ⟨w.heap.size, 0, none⟩ = some (.int .i64 R) := cellB HX.out
      have g1 : wr.cell? ⟨w.heap.size, 1, none⟩ = some (.int .i64 C) := cellB HX.out
      have g2' : wr.cell? ⟨w.heap.size, 2, none⟩ = some (.slice ac gs.length cc) := cellB HX.out
      have hzr : w.heap.size < wr.heap.size := (Array.getElem?_eq_some_iff.1 HX.out).1
      by_cases hlt : k < gs.length
      · obtain ⟨q, off, cap', e', hc1, hc2, hbl, hx, hs⟩ := At.get (H.out.kept HB.out) hlt
        simp only [Value.slice.injEq, true_and] at e'
        obtain ⟨rfl, rfl⟩ := e'
        have HN : Hid (fitsB R C (gs.getD k dG) = true → freeG (gs.take k) (gs.getD k dG) = true → okTo R C gs (k + 1) = true) := fun h1 h2 => okTo_succ HO.out h1 h2
        have HF : Hid ((fitsB R C (gs.getD k dG) && freeG (gs.take k) (gs.getD k dG)) = false → okB ⟨R, C, gs⟩ = false) := fun h1 => okB_false2 (okTo_false hlt h1)
        have HE : Hid (fitsB R C (gs.getD k dG) = true → freeIn (takenBy (gs.take k)) (gs.getD k dG).row.toNat (gs.getD k dG).col.toNat (gs.getD k dG).rows.toNat (gs.getD k dG).cols.toNat = freeG (gs.take k) (gs.getD k dG)) := fun h1 => free_eq (okTo_fits (Nat.le_of_lt hlt) HO.out) h1 hR2 hC2
        have HS : Hid (takenBy (gs.take (k + 1)) = takenBy (gs.take k) ++ (slotsG (gs.getD k dG)).map (·.1)) := by
          show takenBy (gs.take (k + 1)) = _
          rw [← takenBy_snoc, List.take_succ_eq_append_getElem hlt]
          simp [List.getD, hlt]
        have HLn : Hid ((takenBy (gs.take k)).length ≤ 40 * 752) := by
          have := takenBy_len hR2 hC2 (gs.take k) (okTo_fits (Nat.le_of_lt hlt) HO.out)
          rw [List.length_take] at this
          show (takenBy (gs.take k)).length ≤ 40 * 752
          omega
        have KF := Hid.intro (cellFits_any R C (.slice (some ⟨q, off, none⟩) gs.length cc) (gs.getD k dG) hs ⟨hR1, hR2⟩ ⟨hC1, hC2⟩)
        generalize gs.getD k dG = x at hx HN HF HE HS KF
        obtain ⟨x0, x1, x2, x3, x4⟩ := hx
        unfold maxLen at hc2
        clear hs
        cases h1 : fitsB R C x with
        | false =>
          have HF' := Hid.intro (HF.out (by simp only [h1, Bool.false_and]))
          rw [h1] at KF
          clear HN HF HE HS HO h1
          go_wp2_with fail
          refine (KF.out _).mono ?_
          rintro e w3 ⟨rfl, hb3⟩
          have HB3 := Hid.intro (k_trans (k_alloc HB.out _) hb3)
          clear hb3
          go_wp2
          refine bodyPost_ret (results_tmp2 rfl _ _ _) rfl ?_
          exact ⟨.inl ⟨HF'.out, rfl⟩, HB3.out⟩
        | true =>
          have KA := Hid.intro (fun (W : World) (B : Nat) => allFreeG (x := x) h1 hR2 hC2 W B (takenBy (gs.take k)))
          have KT := Hid.intro (takeG (x := x) h1 hR2 hC2)
          rw [HE.out h1] at KA
          rw [h1] at KF
          go_wp2_with fail
          refine (KF.out _).mono ?_
          rintro e w3 ⟨rfl, hb3⟩
          have HB3 := Hid.intro (k_trans (k_alloc HB.out _) hb3)
          have HX3 := Hid.intro ((hb3.block w.heap.size (by simp; omega)).trans ((Below.heap_alloc _ _ _ hzr).trans HX.out))
          have HY3 := Hid.intro ((hb3.block wr.heap.size (by simp)).trans (newestB _ _))
          have hzt := HT.out.lt
          have HT3 : Hid (TakAt w3 w1.heap.size (takenBy (gs.take k))) := HT.out.of_block ((hb3.block _ (by simp; omega)).trans (Below.heap_alloc _ _ _ hzt))
          have y0 : w3.cell? ⟨wr.heap.size, 0, none⟩ = some (.int .i64 x.row) := cellB HY3.out
          have y1 : w3.cell? ⟨wr.heap.size, 1, none⟩ = some (.int .i64 x.col) := cellB HY3.out
          have y2 : w3.cell? ⟨wr.heap.size, 2, none⟩ = some (.int .i64 x.rows) := cellB HY3.out
          have y3 : w3.cell? ⟨wr.heap.size, 3, none⟩ = some (.int .i64 x.cols) := cellB HY3.out
          have y4 : w3.cell? ⟨wr.heap.size, 4, none⟩ = some (.int .i64 x.ins) := cellB HY3.out
          clear hb3
          cases h2 : freeG (gs.take k) x with
          | false =>
            have HF' := Hid.intro (HF.out (by simp only [h2, Bool.and_false]))
            rw [h2] at KA
            clear HN HF HE HS HO h2 h1
            go_wp2_with fail
            refine (KA.out _ _ HT3.out).mono ?_
            rintro e w4 ⟨rfl, hb4⟩
            have HB4 := Hid.intro (k_trans HB3.out hb4)
            clear hb4
            go_wp2
            refine bodyPost_ret (results_tmp2 rfl _ _ _) rfl ?_
            exact ⟨.inl ⟨HF'.out, rfl⟩, HB4.out⟩
          | true =>
            have HN' := Hid.intro (HN.out h1 h2)
            rw [h2] at KA
            clear HN HF HE HO h2 h1
            go_wp2_with fail
            refine (KA.out _ _ HT3.out).mono ?_
            rintro e w4 ⟨rfl, hb4⟩
            have HB4 := Hid.intro (k_trans HB3.out hb4)
            have hz3 : w.heap.size < w3.heap.size := (Array.getElem?_eq_some_iff.1 HX3.out).1
            have HX4 := Hid.intro ((hb4.block w.heap.size hz3).trans HX3.out)
            have hy3 : wr.heap.size < w3.heap.size := (Array.getElem?_eq_some_iff.1 HY3.out).1
            have HY4 := Hid.intro ((hb4.block wr.heap.size hy3).trans HY3.out)
            have HT4 : Hid (TakAt w4 w1.heap.size (takenBy (gs.take k))) := HT3.out.of_block (hb4.block _ HT3.out.lt)
            have z0 : w4.cell? ⟨wr.heap.size, 0, none⟩ = some (.int .i64 x.row) := cellB HY4.out
            have z1 : w4.cell? ⟨wr.heap.size, 1, none⟩ = some (.int .i64 x.col) := cellB HY4.out
            have z2 : w4.cell? ⟨wr.heap.size, 2, none⟩ = some (.int .i64 x.rows) := cellB HY4.out
            have z3 : w4.cell? ⟨wr.heap.size, 3, none⟩ = some (.int .i64 x.cols) := cellB HY4.out
            have z4 : w4.cell? ⟨wr.heap.size, 4, none⟩ = some (.int .i64 x.ins) := cellB HY4.out
            clear hb4 y0 y1 y2 y3 y4
            go_wp2_with fail
            refine (KT.out _ _ _ HT4.out HLn.out).mono ?_
            rintro e w5 ⟨⟨vt, rfl⟩, hT5, hg5⟩
            have HT5 := Hid.intro hT5
            have HB5 : Hid (Below w.heap.size w w5) := HB4.out.grown hg5 HB4.out.size (fun j e => by cases e; omega)
            have hz4 : w.heap.size < w4.heap.size := (Array.getElem?_eq_some_iff.1 HX4.out).1
            have HX5 : Hid (w5.heap[w.heap.size]? = _) := Hid.intro ((hg5.block w.heap.size hz4 (by simp; omega)).trans HX4.out)
            clear hT5 hg5
            go_wp2
            go_roundw
            case rel => exact ⟨k + 1, by omega, by go_num, HN', by rw [HS.out]; exact HT5.out, HB5, HX5⟩
            case measure => simp [intOf]; omega
      · obtain rfl : k = gs.length := by omega
        have HF : Hid (okB ⟨R, C, gs⟩ = true) := by
          show okB _ = true
          simp only [okB, HBB.out, HO.out, Bool.and_self]
        clear HO
        go_wp2
        refine bodyPost_ret (results_tmp2 rfl _ _ _) rfl ?_
        exact ⟨.inr ⟨HF.out, w1.heap.size, by omega, rfl, by have := HT.out; rwa [List.take_length] at this⟩, HB.out⟩

set_option maxRecDepth 100000 in
set_option maxHeartbeats 1000000 in
theorem implGrdOk (R C : Int) (ac : Option Addr) (cc : Nat) (gs : List GC) (w : World) {z : Nat} (h : GsAt w z (.slice ac gs.length cc) gs) :
    Calls Try.prog 19 #[.agg #[.int .i64 R, .int .i64 C, .slice ac gs.length cc]] w fun e w' => e = .returned (.bool (okB ⟨R, C, gs⟩)) ∧ Below w.heap.size w w' := by
  have K0 := Hid.intro (k_alloc (Below.refl w.heap.size w) (.cells #[.int .i64 R, .int .i64 C, .slice ac gs.length cc] 39))
  have H := Hid.intro (h.kept K0.out)
  clear h
  go_enter Try.func19, Try.ntmps19
  go_wp2_with fail
  refine (takersOf_any R C ac cc gs _ H.out).mono ?_
  rintro e w1 ⟨ho, hb1⟩
  have K1 := Hid.intro (k_trans K0.out hb1)
  clear hb1
  rcases ho with ⟨h1, rfl⟩ | ⟨h1, B, _, rfl, _⟩
  · have HF := Hid.intro h1
    clear h1
    go_wp2
    go_ret
    exact ⟨retB HF.out.symm, K1.out⟩
  · have HF := Hid.intro h1
    clear h1
    go_wp2
    go_ret
    exact ⟨retB HF.out.symm, K1.out⟩
end Go.Proofs.Ytgcobajekffmoab
namespace Go.Proofs.Ytgcobajekffmoab
open Go.RowKit

theorem partEnd_val {t : T} (h : tblB t = true) {r : Nat} (hr : r < t.rows.length) : (partOf t r = 0 ∧ endOf t r = t.head) ∨ (partOf t r = 1 ∧ endOf t r = t.rows.length - t.foot) ∨ (partOf t r = 2 ∧ endOf t r = t.rows.length) := by
  have e : partOf t r = if (r : Int) < t.head then 0 else if (t.rows.length : Int) - t.foot ≤ r then 2 else 1 := by
    unfold partOf
    rw [if_pos ⟨h, inB_true (by omega) (by omega)⟩]
  unfold endOf
  rw [e]
  split
  · exact .inl ⟨rfl, rfl⟩
  · split
    · exact .inr (.inr ⟨rfl, rfl⟩)
    · exact .inr (.inl ⟨rfl, rfl⟩)
set_option maxRecDepth 100000 in
set_option maxHeartbeats 1000000 in
theorem partEnd_any (ac ar : Option Addr) (cc cr : Nat) (t : T) (htk : tblB t = true) (r : Nat) (hrl : r < t.rows.length) (w : World) {z : Nat} (hc : ColsAt w z (.slice ac t.cols.length cc) t.cols) (hr : RowsAt w z (.slice ar t.rows.length cr) t.rows) :
    Calls Try.prog 33 #[.agg #[.slice ac t.cols.length cc, .int .i64 t.head, .int .i64 t.foot, .slice ar t.rows.length cr, .int .i64 t.gap], .int .i64 (r : Int)] w fun e w' => e = .returned (.int .i64 (endOf t r)) ∧ Below w.heap.size w w' := by
  have hb := tblB_bounds htk
  have K0 := k_alloc (Below.refl w.heap.size w) (.cells #[.slice ac t.cols.length cc, .int .i64 t.head, .int .i64 t.foot, .slice ar t.rows.length cr, .int .i64 t.gap] 26)
  have X0 := newestB w (.cells #[.slice ac t.cols.length cc, .int .i64 t.head, .int .i64 t.foot, .slice ar t.rows.length cr, .int .i64 t.gap] 26)
  have KP := Hid.intro (implTblPart ac ar cc cr t (r : Int) _ (hc.kept K0) (hr.kept K0))
  rcases partEnd_val htk hrl with ⟨h1, h2⟩ | ⟨h1, h2⟩ | ⟨h1, h2⟩
  all_goals
    rw [h1] at KP
    have HE := Hid.intro h2
    have HX := Hid.intro X0
    have HK := Hid.intro K0
    clear h1 h2 hc hr
    go_enter Try.func33, Try.ntmps33
    go_wp2_with fail
    refine KP.out.mono ?_
    rintro e w1 ⟨rfl, hb1⟩
    obtain ⟨⟨t0, t1, t2, t3, t4⟩, _⟩ := fiveT (blk_kept HX.out hb1)
    have HB := Hid.intro (k_trans HK.out hb1)
    clear hb1 KP HX HK X0 K0
    go_wp2
    go_ret
    exact ⟨retI64 HE.out.symm, HB.out⟩
theorem Stands.fits {n : Nat} {a : GC} (h : Stands n a) : fitsB n 94 a = true := by
  unfold Stands at h
  simp only [fitsB, inB, Bool.and_eq_true, decide_eq_true_eq]
  omega
theorem tak_ne {W : World} {mb b : Nat} {L : List (Nat × Nat)} {cur : Array Value} {e : TypeId} (h : TakAt W mb L) (hb : W.heap[b]? = some (.cells cur e)) : mb ≠ b := fun e1 => by
  obtain ⟨o, ho, hc⟩ := h.notCells
  rw [e1, hb] at ho
  cases ho
  cases hc
theorem tak_row {W : World} {mb base : Nat} {L : List (Nat × Nat)} {e : TypeId} {sz : Nat} {v : Value} {m : Nat} {xs : List Value} (h : TakAt W mb L) (ho : W.ownsRow base e sz v m xs) : some mb ≠ v.ownBlock := fun e1 => by
  rcases ho.2 with ⟨rfl, _⟩ | ⟨g, cap, cur, rfl, _, hc, _⟩
  · simp [Value.ownBlock] at e1
  · simp [Value.ownBlock] at e1
    exact tak_ne h hc e1
/-- the grid's facts abide what turns the map alone -/
theorem SG.take {w W W' : World} {gb mb : Nat} {ac ar : Option Addr} {cc cr : Nat} {t : T} {C : Int} {vg : Value} {gs : List GC} {L : List (Nat × Nat)} (h : SG w gb ac ar cc cr t C vg gs W) (hT : TakAt W mb L) (hm : w.heap.size ≤ mb) (k : W.grownBy W' (some mb)) : SG w gb ac ar cc cr t C vg gs W' :=
  ⟨h.bel.grown k h.bel.size (fun j e => by cases e; exact hm), blk_grown h.tbl k (fun e => by injection e with e; exact tak_ne hT h.tbl e.symm), blk_grown h.res k (fun e => by injection e with e; exact tak_ne hT h.res e.symm), blk_grown h.grd k (fun e => by injection e with e; exact tak_ne hT h.grd e.symm),
    row_off (n := w.heap.size + 2) (b1 := none) (b2 := some mb) h.own (Off.grown k) (Nat.le_refl _) (by cases vg.ownBlock <;> simp) (by
      cases hb : vg.ownBlock with
      | none => exact .inl rfl
      | some b => exact .inr (fun e => tak_row hT h.own (by rw [hb]; exact e.symm)))⟩
end Go.Proofs.Ytgcobajekffmoab
