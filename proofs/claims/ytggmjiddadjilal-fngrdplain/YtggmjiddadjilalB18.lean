/-
  PROVED HERE: what the program's TblPart answers at a table that lies in memory, at every number of a row; nothing that was in memory is turned. Also: what the program's allFree and take do with a cell of a grid, on the map of slots. Also: small facts for the program's GrdOf: partEnd; the map of slots beside a grid of the call's own.
-/
import Derived.Test.YtggmjiddadjilalB7
import Derived.Test.YtggmjiddadjilalB15
import Derived.Test.YtggmjiddadjilalB4
import Derived.Test.YtggmjiddadjilalB17
namespace Go.Proofs.Ytggmjiddadjilal
open Go.RowKit

set_option maxRecDepth 100000 in
set_option maxHeartbeats 1000000 in
theorem implTblPart (ac ar : Option Addr) (cc cr : Nat) (t : T) (q : Int) (w : World) {z : Nat} (hc : ColsAt w z (.slice ac t.cols.length cc) t.cols) (hr : RowsAt w z (.slice ar t.rows.length cr) t.rows) :
    Calls Try.prog 57 #[.agg #[.slice ac t.cols.length cc, .int .i64 t.head, .int .i64 t.foot, .slice ar t.rows.length cr, .int .i64 t.gap], .int .i64 q] w fun e w' => e = .returned (.int .i64 (partOf t q)) ∧ Below w.heap.size w w' := by
  have K0 := Hid.intro (k_alloc (Below.refl w.heap.size w) (.cells #[.slice ac t.cols.length cc, .int .i64 t.head, .int .i64 t.foot, .slice ar t.rows.length cr, .int .i64 t.gap] 37))
  have HC := Hid.intro (hc.kept K0.out)
  have HR := Hid.intro (hr.kept K0.out)
  clear hc hr
  cases hv : tblB t
  · have HF : Hid (partOf t q = -1) := Hid.intro (by rw [partOf, if_neg (by rw [hv]; simp)])
    go_enter Try.func57, Try.ntmps57
    go_wp2_with fail
    refine (implTblOk ac ar cc cr t _ HC.out HR.out).mono ?_
    rw [hv]
    rintro e w1 ⟨rfl, hb1⟩
    have K1 := Hid.intro (k_trans K0.out hb1)
    clear hb1
    go_wp2
    go_ret
    exact ⟨retIP HF.out.symm, K1.out⟩
  obtain ⟨⟨b1, b2⟩, ⟨b3, b4⟩, b5, b6⟩ := tblB_bounds hv
  cases hi : inB q 0 (t.rows.length - 1)
  · have HF : Hid (partOf t q = -1) := Hid.intro (by rw [partOf, if_neg (by rw [hi]; simp)])
    go_enter Try.func57, Try.ntmps57
    go_wp2_with fail
    refine (implTblOk ac ar cc cr t _ HC.out HR.out).mono ?_
    rw [hv]
    rintro e w1 ⟨rfl, hb1⟩
    obtain ⟨m0, m1, m2, m3, m4⟩ := fiveO ((hb1.block w.heap.size (by simp)).trans (newestO _ _))
    have K1 := Hid.intro (k_trans K0.out hb1)
    clear hb1
    go_wp2_with (go_at_call 35; refine (within_any _ _ _ _).mono ?_; rintro e w' ⟨rfl, rfl⟩)
    go_ret
    exact ⟨retIP HF.out.symm, K1.out⟩
  have HP : Hid (partOf t q = if q < t.head then 0 else if t.rows.length - t.foot ≤ q then 2 else 1) := Hid.intro (by rw [partOf, if_pos ⟨hv, hi⟩])
  by_cases h1 : q < t.head
  · have HF : Hid (partOf t q = 0) := Hid.intro (by rw [HP.out, if_pos h1])
    go_enter Try.func57, Try.ntmps57
    go_wp2_with fail
    refine (implTblOk ac ar cc cr t _ HC.out HR.out).mono ?_
    rw [hv]
    rintro e w1 ⟨rfl, hb1⟩
    obtain ⟨m0, m1, m2, m3, m4⟩ := fiveO ((hb1.block w.heap.size (by simp)).trans (newestO _ _))
    have K1 := Hid.intro (k_trans K0.out hb1)
    clear hb1
    go_wp2_with (go_at_call 35; refine (within_any _ _ _ _).mono ?_; rintro e w' ⟨rfl, rfl⟩)
    go_ret
    exact ⟨retIP HF.out.symm, K1.out⟩
  by_cases h2 : (t.rows.length : Int) - t.foot ≤ q
  · have HF : Hid (partOf t q = 2) := Hid.intro (by rw [HP.out, if_neg h1, if_pos h2])
    go_enter Try.func57, Try.ntmps57
    go_wp2_with fail
    refine (implTblOk ac ar cc cr t _ HC.out HR.out).mono ?_
    rw [hv]
    rintro e w1 ⟨rfl, hb1⟩
    obtain ⟨m0, m1, m2, m3, m4⟩ := fiveO ((hb1.block w.heap.size (by simp)).trans (newestO _ _))
    have K1 := Hid.intro (k_trans K0.out hb1)
    clear hb1
    go_wp2_with (go_at_call 35; refine (within_any _ _ _ _).mono ?_; rintro e w' ⟨rfl, rfl⟩)
    go_ret
    exact ⟨retIP HF.out.symm, K1.out⟩
  · have HF : Hid (partOf t q = 1) := Hid.intro (by rw [HP.out, if_neg h1, if_neg h2])
    go_enter Try.func57, Try.ntmps57
    go_wp2_with fail
    refine (implTblOk ac ar cc cr t _ HC.out HR.out).mono ?_
    rw [hv]
    rintro e w1 ⟨rfl, hb1⟩
    obtain ⟨m0, m1, m2, m3, m4⟩ := fiveO ((hb1.block w.heap.size (by simp)).trans (newestO _ _))
    have K1 := Hid.intro (k_trans K0.out hb1)
    clear hb1
    go_wp2_with (go_at_call 35; refine (within_any _ _ _ _).mono ?_; rintro e w' ⟨rfl, rfl⟩)
    go_ret
    exact ⟨retIP HF.out.symm, K1.out⟩
end Go.Proofs.Ytggmjiddadjilal
namespace Go.Proofs.Ytggmjiddadjilal
open Go.RowKit

theorem allFreeG {R C : Int} {x : GC} (hf : fitsB R C x = true) (hR : R ≤ 8) (hC : C ≤ 94) (w : World) (B : Nat) (L : List (Nat × Nat)) (hT : TakAt w B L) :
    Calls Try.prog 40 #[.map (some B), .agg #[.int .i64 x.row, .int .i64 x.col, .int .i64 x.rows, .int .i64 x.cols, .int .i64 x.ins]] w fun e w' => e = .returned (.bool (freeIn L x.row.toNat x.col.toNat x.rows.toNat x.cols.toNat)) ∧ Below w.heap.size w w' := by
  obtain ⟨e1, e2, e3, e4, h1, h2, h3, h4⟩ := fits_of hf
  have h := allFree_any x.row.toNat x.col.toNat x.rows.toNat x.cols.toNat x.ins (by omega) (by omega) w B L hT
  unfold gcV at h
  rw [← e1, ← e2, ← e3, ← e4] at h
  exact h
theorem takeG {R C : Int} {x : GC} (hf : fitsB R C x = true) (hR : R ≤ 8) (hC : C ≤ 94) (w : World) (B : Nat) (L : List (Nat × Nat)) (hT : TakAt w B L) (hL : L.length ≤ 40 * 752) :
    Calls Try.prog 41 #[.map (some B), .agg #[.int .i64 x.row, .int .i64 x.col, .int .i64 x.rows, .int .i64 x.cols, .int .i64 x.ins]] w fun e w' => (∃ v, e = .returned v) ∧ TakAt w' B (L ++ (slotsG x).map (·.1)) ∧ w.grownBy w' (some B) := by
  have hl := slotsG_len hf hR hC
  obtain ⟨e1, e2, e3, e4, h1, h2, h3, h4⟩ := fits_of hf
  have h := take_any x.row.toNat x.col.toNat x.rows.toNat x.cols.toNat x.ins (by omega) (by omega) w B L hT (by show _ + (slotsG x).length < _; omega)
  unfold gcV at h
  rw [← e1, ← e2, ← e3, ← e4] at h
  exact h
end Go.Proofs.Ytggmjiddadjilal
namespace Go.Proofs.Ytggmjiddadjilal
open Go.RowKit

theorem partEnd_val {t : T} (h : tblB t = true) {r : Nat} (hr : r < t.rows.length) : (partOf t r = 0 ∧ endOf t r = t.head) ∨ (partOf t r = 1 ∧ endOf t r = t.rows.length - t.foot) ∨ (partOf t r = 2 ∧ endOf t r = t.rows.length) := by
  have e : partOf t r = if (r : Int) < t.head then 0 else if (t.rows.length : Int) - t.foot ≤ r then 2 else 1 := by
    unfold partOf
    rw [if_pos ⟨h, inB_true (by omega) (by omega)⟩]
  unfold endOf
  rw [e]
  split
  · exact .inl ⟨rfl, rfl⟩
  · split
    · exact .inr (.inr ⟨rfl, rfl⟩)
    · exact .inr (.inl ⟨rfl, rfl⟩)
set_option maxRecDepth 100000 in
set_option maxHeartbeats 1000000 in
theorem partEnd_any (ac ar : Option Addr) (cc cr : Nat) (t : T) (htk : tblB t = true) (r : Nat) (hrl : r < t.rows.length) (w : World) {z : Nat} (hc : ColsAt w z (.slice ac t.cols.length cc) t.cols) (hr : RowsAt w z (.slice ar t.rows.length cr) t.rows) :
    Calls Try.prog 39 #[.agg #[.slice ac t.cols.length cc, .int .i64 t.head, .int .i64 t.foot, .slice ar t.rows.length cr, .int .i64 t.gap], .int .i64 (r : Int)] w fun e w' => e = .returned (.int .i64 (endOf t r)) ∧ Below w.heap.size w w' := by
  have hb := tblB_bounds htk
  have K0 := k_alloc (Below.refl w.heap.size w) (.cells #[.slice ac t.cols.length cc, .int .i64 t.head, .int .i64 t.foot, .slice ar t.rows.length cr, .int .i64 t.gap] 37)
  have X0 := newestB w (.cells #[.slice ac t.cols.length cc, .int .i64 t.head, .int .i64 t.foot, .slice ar t.rows.length cr, .int .i64 t.gap] 37)
  have KP := Hid.intro (implTblPart ac ar cc cr t (r : Int) _ (hc.kept K0) (hr.kept K0))
  rcases partEnd_val htk hrl with ⟨h1, h2⟩ | ⟨h1, h2⟩ | ⟨h1, h2⟩
  all_goals
    rw [h1] at KP
    have HE := Hid.intro h2
    have HX := Hid.intro X0
    have HK := Hid.intro K0
    clear h1 h2 hc hr
    go_enter Try.func39, Try.ntmps39
    go_wp2_with fail
    refine KP.out.mono ?_
    rintro e w1 ⟨rfl, hb1⟩
    obtain ⟨⟨t0, t1, t2, t3, t4⟩, _⟩ := fiveT (blk_kept HX.out hb1)
    have HB := Hid.intro (k_trans HK.out hb1)
    clear hb1 KP HX HK X0 K0
    go_wp2
    go_ret
    exact ⟨retI64 HE.out.symm, HB.out⟩
theorem Stands.fits {n : Nat} {a : GC} (h : Stands n a) : fitsB n 94 a = true := by
  unfold Stands at h
  simp only [fitsB, inB, Bool.and_eq_true, decide_eq_true_eq]
  omega
theorem tak_ne {W : World} {mb b : Nat} {L : List (Nat × Nat)} {cur : Array Value} {e : TypeId} (h : TakAt W mb L) (hb : W.heap[b]? = some (.cells cur e)) : mb ≠ b := fun e1 => by
  obtain ⟨o, ho, hc⟩ := h.notCells
  rw [e1, hb] at ho
  cases ho
  cases hc
theorem tak_row {W : World} {mb base : Nat} {L : List (Nat × Nat)} {e : TypeId} {sz : Nat} {v : Value} {m : Nat} {xs : List Value} (h : TakAt W mb L) (ho : W.ownsRow base e sz v m xs) : some mb ≠ v.ownBlock := fun e1 => by
  rcases ho.2 with ⟨rfl, _⟩ | ⟨g, cap, cur, rfl, _, hc, _⟩
  · simp [Value.ownBlock] at e1
  · simp [Value.ownBlock] at e1
    exact tak_ne h hc e1
/-- the grid's facts abide what turns the map alone -/
theorem SG.take {w W W' : World} {gb mb : Nat} {ac ar : Option Addr} {cc cr : Nat} {t : T} {C : Int} {vg : Value} {gs : List GC} {L : List (Nat × Nat)} (h : SG w gb ac ar cc cr t C vg gs W) (hT : TakAt W mb L) (hm : w.heap.size ≤ mb) (k : W.grownBy W' (some mb)) : SG w gb ac ar cc cr t C vg gs W' :=
  ⟨h.bel.grown k h.bel.size (fun j e => by cases e; exact hm), blk_grown h.tbl k (fun e => by injection e with e; exact tak_ne hT h.tbl e.symm), blk_grown h.res k (fun e => by injection e with e; exact tak_ne hT h.res e.symm), blk_grown h.grd k (fun e => by injection e with e; exact tak_ne hT h.grd e.symm),
    row_off (n := w.heap.size + 2) (b1 := none) (b2 := some mb) h.own (Off.grown k) (Nat.le_refl _) (by cases vg.ownBlock <;> simp) (by
      cases hb : vg.ownBlock with
      | none => exact .inl rfl
      | some b => exact .inr (fun e => tak_row hT h.own (by rw [hb]; exact e.symm)))⟩
end Go.Proofs.Ytggmjiddadjilal
