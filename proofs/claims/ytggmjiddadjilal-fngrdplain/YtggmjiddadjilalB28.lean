/-
  PROVED HERE: what the program's takersOf and GrdOk answer at a grid that lies in memory; nothing that was in memory is turned. Also: what the program's GrdBlocks answers at any grid; nothing that was in memory is turned. Also: what stays all along a law over a table's grid: the table in its box, the grid in its own, both in memory.
-/
import Derived.Test.YtggmjiddadjilalB27
import Derived.Test.YtggmjiddadjilalB18
import Derived.Test.YtggmjiddadjilalB15
import Derived.Test.YtggmjiddadjilalB25
namespace Go.Proofs.Ytggmjiddadjilal
open Go.RowKit

/-- what takersOf hands back -/
def TakOut (g : G) (w : World) (e : Ending) (w' : World) : Prop :=
  (okB g = false ∧ e = .returned (.tuple #[.map none, .bool false])) ∨ (okB g = true ∧ ∃ B, w.heap.size ≤ B ∧ e = .returned (.tuple #[.map (some B), .bool true]) ∧ TakAt w' B (takenBy g.cells))

set_option maxRecDepth 100000 in
set_option maxHeartbeats 2000000 in
theorem takersOf_any (R C : Int) (ac : Option Addr) (cc : Nat) (gs : List GC) (w : World) {z : Nat} (h : GsAt w z (.slice ac gs.length cc) gs) :
    Calls Try.prog 50 #[.agg #[.int .i64 R, .int .i64 C, .slice ac gs.length cc]] w fun e w' => TakOut ⟨R, C, gs⟩ w e w' ∧ Below w.heap.size w w' := by
  obtain ⟨_, _, _, hlen⟩ := At.form h
  unfold maxLen at hlen
  have H := Hid.intro h
  clear h
  have hmm := @run_makeMap Try.prog
  have KB := Hid.intro (boundsOk_any R C ac gs.length cc)
  cases hb : boundsB R C gs.length with
  | false =>
    rw [hb] at KB
    have HF : Hid (okB ⟨R, C, gs⟩ = false) := okB_false1 hb
    go_enter Try.func50, Try.ntmps50
    go_wp2_with fail
    refine (KB.out _).mono ?_
    rintro e w1 ⟨rfl, hb1⟩
    have K1 := Hid.intro (k_trans (k_alloc (Below.refl w.heap.size w) (.cells #[.int .i64 R, .int .i64 C, .slice ac gs.length cc] 42)) hb1)
    clear hb1
    go_wp2
    refine bodyPost_ret (results_tmp2 rfl _ _ _) rfl ?_
    exact ⟨.inl ⟨HF.out, rfl⟩, K1.out⟩
  | true =>
    rw [hb] at KB
    obtain ⟨hR1, hR2, hC1, hC2, hn⟩ := bounds_of hb
    have HBB := Hid.intro hb
    clear hb
    go_enter Try.func50, Try.ntmps50
    go_wp2_with fail
    refine (KB.out _).mono ?_
    rintro e w1 ⟨rfl, hb1⟩
    have K1 := Hid.intro (k_trans (k_alloc (Below.refl w.heap.size w) (.cells #[.int .i64 R, .int .i64 C, .slice ac gs.length cc] 42)) hb1)
    have X1 := Hid.intro ((hb1.block w.heap.size (by simp)).trans (newestB _ _))
    have hs1 : w.heap.size < w1.heap.size := by have := hb1.size; simp at this; omega
    clear hb1
    have g2 : w1.cell? ⟨w.heap.size, 2, none⟩ = some (.slice ac gs.length cc) := cellB X1.out
    go_wp2_with fail
    have hBz : w.heap.size ≠ w1.heap.size := by omega
    go_loopw [14] (fun i W => ∃ k : Nat, k ≤ gs.length ∧ i = .int .i64 k ∧ Hid (okTo R C gs k = true) ∧ Hid (TakAt W w1.heap.size (takenBy (gs.take k))) ∧ Hid (Below w.heap.size w W) ∧ Hid (W.heap[w.heap.size]? = some (.cells #[.int .i64 R, .int .i64 C, .slice ac gs.length cc] 42))) (fun i _ => gs.length - (intOf i).toNat)
    case atStart => exact ⟨0, Nat.zero_le _, rfl, okTo_zero _ _ _, TakAt.new w1, k_alloc K1.out _, (Below.heap_alloc _ _ _ hs1).trans X1.out⟩
    case round =>
      obtain ⟨k, hk, rfl, HO, HT, HB, HX⟩ := hrel
      have g0 : wr.cell? ⟨w.heap.size, 0, none⟩ = some (.int .i64 R) := cellB HX.out
      have g1 : wr.cell? ⟨w.heap.size, 1, none⟩ = some (.int .i64 C) := cellB HX.out
      have g2' : wr.cell? ⟨w.heap.size, 2, none⟩ = some (.slice ac gs.length cc) := cellB HX.out
      have hzr : w.heap.size < wr.heap.size := (Array.getElem?_eq_some_iff.1 HX.out).1
      by_cases hlt : k < gs.length
      · obtain ⟨q, off, cap', e', hc1, hc2, hbl, hx, hs⟩ := At.get (H.out.kept HB.out) hlt
        simp only [Value.slice.injEq, true_and] at e'
        obtain ⟨rfl, rfl⟩ := e'
        have HN : Hid (fitsB R C (gs.getD k dG) = true → freeG (gs.take k) (gs.getD k dG) = true → okTo R C gs (k + 1) = true) := fun h1 h2 => okTo_succ HO.out h1 h2
        have HF : Hid ((fitsB R C (gs.getD k dG) && freeG (gs.take k) (gs.getD k dG)) = false → okB ⟨R, C, gs⟩ = false) := fun h1 => okB_false2 (okTo_false hlt h1)
        have HE : Hid (fitsB R C (gs.getD k dG) = true → freeIn (takenBy (gs.take k)) (gs.getD k dG).row.toNat (gs.getD k dG).col.toNat (gs.getD k dG).rows.toNat (gs.getD k dG).cols.toNat = freeG (gs.take k) (gs.getD k dG)) := fun h1 => free_eq (okTo_fits (Nat.le_of_lt hlt) HO.out) h1 hR2 hC2
        have HS : Hid (takenBy (gs.take (k + 1)) = takenBy (gs.take k) ++ (slotsG (gs.getD k dG)).map (·.1)) := by
          show takenBy (gs.take (k + 1)) = _
          rw [← takenBy_snoc, List.take_succ_eq_append_getElem hlt]
          simp [List.getD, hlt]
        have HLn : Hid ((takenBy (gs.take k)).length ≤ 40 * 752) := by
          have := takenBy_len hR2 hC2 (gs.take k) (okTo_fits (Nat.le_of_lt hlt) HO.out)
          rw [List.length_take] at this
          show (takenBy (gs.take k)).length ≤ 40 * 752
          omega
        have KF := Hid.intro (cellFits_any R C (.slice (some ⟨q, off, none⟩) gs.length cc) (gs.getD k dG) hs ⟨hR1, hR2⟩ ⟨hC1, hC2⟩)
        generalize gs.getD k dG = x at hx HN HF HE HS KF
        obtain ⟨x0, x1, x2, x3, x4⟩ := hx
        unfold maxLen at hc2
        clear hs
        cases h1 : fitsB R C x with
        | false =>
          have HF' := Hid.intro (HF.out (by simp only [h1, Bool.false_and]))
          rw [h1] at KF
          clear HN HF HE HS HO h1
          go_wp2_with fail
          refine (KF.out _).mono ?_
          rintro e w3 ⟨rfl, hb3⟩
          have HB3 := Hid.intro (k_trans (k_alloc HB.out _) hb3)
          clear hb3
          go_wp2
          refine bodyPost_ret (results_tmp2 rfl _ _ _) rfl ?_
          exact ⟨.inl ⟨HF'.out, rfl⟩, HB3.out⟩
        | true =>
          have KA := Hid.intro (fun (W : World) (B : Nat) => allFreeG (x := x) h1 hR2 hC2 W B (takenBy (gs.take k)))
          have KT := Hid.intro (takeG (x := x) h1 hR2 hC2)
          rw [HE.out h1] at KA
          rw [h1] at KF
          go_wp2_with fail
          refine (KF.out _).mono ?_
          rintro e w3 ⟨rfl, hb3⟩
          have HB3 := Hid.intro (k_trans (k_alloc HB.out _) hb3)
          have HX3 := Hid.intro ((hb3.block w.heap.size (by simp; omega)).trans ((Below.heap_alloc _ _ _ hzr).trans HX.out))
          have HY3 := Hid.intro ((hb3.block wr.heap.size (by simp)).trans (newestB _ _))
          have hzt := HT.out.lt
          have HT3 : Hid (TakAt w3 w1.heap.size (takenBy (gs.take k))) := HT.out.of_block ((hb3.block _ (by simp; omega)).trans (Below.heap_alloc _ _ _ hzt))
          have y0 : w3.cell? ⟨wr.heap.size, 0, none⟩ = some (.int .i64 x.row) := cellB HY3.out
          have y1 : w3.cell? ⟨wr.heap.size, 1, none⟩ = some (.int .i64 x.col) := cellB HY3.out
          have y2 : w3.cell? ⟨wr.heap.size, 2, none⟩ = some (.int .i64 x.rows) := cellB HY3.out
          have y3 : w3.cell? ⟨wr.heap.size, 3, none⟩ = some (.int .i64 x.cols) := cellB HY3.out
          have y4 : w3.cell? ⟨wr.heap.size, 4, none⟩ = some (.int .i64 x.ins) := cellB HY3.out
          clear hb3
          cases h2 : freeG (gs.take k) x with
          | false =>
            have HF' := Hid.intro (HF.out (by simp only [h2, Bool.and_false]))
            rw [h2] at KA
            clear HN HF HE HS HO h2 h1
            go_wp2_with fail
            refine (KA.out _ _ HT3.out).mono ?_
            rintro e w4 ⟨rfl, hb4⟩
            have HB4 := Hid.intro (k_trans HB3.out hb4)
            clear hb4
            go_wp2
            refine bodyPost_ret (results_tmp2 rfl _ _ _) rfl ?_
            exact ⟨.inl ⟨HF'.out, rfl⟩, HB4.out⟩
          | true =>
            have HN' := Hid.intro (HN.out h1 h2)
            rw [h2] at KA
            clear HN HF HE HO h2 h1
            go_wp2_with fail
            refine (KA.out _ _ HT3.out).mono ?_
            rintro e w4 ⟨rfl, hb4⟩
            have HB4 := Hid.intro (k_trans HB3.out hb4)
            have hz3 : w.heap.size < w3.heap.size := (Array.getElem?_eq_some_iff.1 HX3.out).1
            have HX4 := Hid.intro ((hb4.block w.heap.size hz3).trans HX3.out)
            have hy3 : wr.heap.size < w3.heap.size := (Array.getElem?_eq_some_iff.1 HY3.out).1
            have HY4 := Hid.intro ((hb4.block wr.heap.size hy3).trans HY3.out)
            have HT4 : Hid (TakAt w4 w1.heap.size (takenBy (gs.take k))) := HT3.out.of_block (hb4.block _ HT3.out.lt)
            have z0 : w4.cell? ⟨wr.heap.size, 0, none⟩ = some (.int .i64 x.row) := cellB HY4.out
            have z1 : w4.cell? ⟨wr.heap.size, 1, none⟩ = some (.int .i64 x.col) := cellB HY4.out
            have z2 : w4.cell? ⟨wr.heap.size, 2, none⟩ = some (.int .i64 x.rows) := cellB HY4.out
            have z3 : w4.cell? ⟨wr.heap.size, 3, none⟩ = some (.int .i64 x.cols) := cellB HY4.out
            have z4 : w4.cell? ⟨wr.heap.size, 4, none⟩ = some (.int .i64 x.ins) := cellB HY4.out
            clear hb4 y0 y1 y2 y3 y4
            go_wp2_with fail
            refine (KT.out _ _ _ HT4.out HLn.out).mono ?_
            rintro e w5 ⟨⟨vt, rfl⟩, hT5, hg5⟩
            have HT5 := Hid.intro hT5
            have HB5 : Hid (Below w.heap.size w w5) := HB4.out.grown hg5 HB4.out.size (fun j e => by cases e; omega)
            have hz4 : w.heap.size < w4.heap.size := (Array.getElem?_eq_some_iff.1 HX4.out).1
            have HX5 : Hid (w5.heap[w.heap.size]? = _) := Hid.intro ((hg5.block w.heap.size hz4 (by simp; omega)).trans HX4.out)
            clear hT5 hg5
            go_wp2
            go_roundw
            case rel => exact ⟨k + 1, by omega, by go_num, HN', by rw [HS.out]; exact HT5.out, HB5, HX5⟩
            case measure => simp [intOf]; omega
      · obtain rfl : k = gs.length := by omega
        have HF : Hid (okB ⟨R, C, gs⟩ = true) := by
          show okB _ = true
          simp only [okB, HBB.out, HO.out, Bool.and_self]
        clear HO
        go_wp2
        refine bodyPost_ret (results_tmp2 rfl _ _ _) rfl ?_
        exact ⟨.inr ⟨HF.out, w1.heap.size, by omega, rfl, by have := HT.out; rwa [List.take_length] at this⟩, HB.out⟩

set_option maxRecDepth 100000 in
set_option maxHeartbeats 1000000 in
theorem implGrdOk (R C : Int) (ac : Option Addr) (cc : Nat) (gs : List GC) (w : World) {z : Nat} (h : GsAt w z (.slice ac gs.length cc) gs) :
    Calls Try.prog 25 #[.agg #[.int .i64 R, .int .i64 C, .slice ac gs.length cc]] w fun e w' => e = .returned (.bool (okB ⟨R, C, gs⟩)) ∧ Below w.heap.size w w' := by
  have K0 := Hid.intro (k_alloc (Below.refl w.heap.size w) (.cells #[.int .i64 R, .int .i64 C, .slice ac gs.length cc] 42))
  have H := Hid.intro (h.kept K0.out)
  clear h
  go_enter Try.func25, Try.ntmps25
  go_wp2_with fail
  refine (takersOf_any R C ac cc gs _ H.out).mono ?_
  rintro e w1 ⟨ho, hb1⟩
  have K1 := Hid.intro (k_trans K0.out hb1)
  clear hb1
  rcases ho with ⟨h1, rfl⟩ | ⟨h1, B, _, rfl, _⟩
  · have HF := Hid.intro h1
    clear h1
    go_wp2
    go_ret
    exact ⟨retB HF.out.symm, K1.out⟩
  · have HF := Hid.intro h1
    clear h1
    go_wp2
    go_ret
    exact ⟨retB HF.out.symm, K1.out⟩
end Go.Proofs.Ytggmjiddadjilal
namespace Go.Proofs.Ytggmjiddadjilal
open Go.RowKit

set_option maxRecDepth 100000 in
set_option maxHeartbeats 2000000 in
theorem implGrdBlocks (R C : Int) (ac : Option Addr) (cc : Nat) (gs : List GC) (w : World) {z : Nat} (h : GsAt w z (.slice ac gs.length cc) gs) :
    Calls Try.prog 29 #[.agg #[.int .i64 R, .int .i64 C, .slice ac gs.length cc]] w fun e w' => ∃ v, e = .returned v ∧ RowI w' w.heap.size w'.heap.size v (blocksL ⟨R, C, gs⟩) ∧ Below w.heap.size w w' := by
  have K0 := Hid.intro (k_alloc (Below.refl w.heap.size w) (.cells #[.int .i64 R, .int .i64 C, .slice ac gs.length cc] 42))
  have H := Hid.intro h
  clear h
  have KO := Hid.intro (implGrdOk R C ac cc gs _ (H.out.kept K0.out))
  cases ho : okB ⟨R, C, gs⟩ with
  | false =>
    have HF := Hid.intro (blocksL_no ho)
    rw [ho] at KO
    clear ho
    go_enter Try.func29, Try.ntmps29
    go_wp2_with fail
    refine KO.out.mono ?_
    rintro e w1 ⟨rfl, hb1⟩
    have K1 := Hid.intro (k_trans K0.out hb1)
    clear hb1
    go_wp2
    go_ret
    exact ⟨_, rfl, .inl ⟨rfl, HF.out⟩, K1.out⟩
  | true =>
    have HF := Hid.intro (blocksL_ok ho)
    rw [ho] at KO
    have ho2 := ho
    simp only [okB, Bool.and_eq_true] at ho2
    obtain ⟨hR1, hR2, hC1, hC2, hn⟩ := bounds_of ho2.1
    have HFit := Hid.intro (okTo_fits (Nat.le_refl _) ho2.2)
    rw [List.take_length] at HFit
    have HC := Hid.intro (fun row => cross_eq HFit.out row)
    obtain ⟨Rn, rfl⟩ : ∃ Rn : Nat, R = Rn := ⟨R.toNat, by omega⟩
    have hRn : Rn ≤ 1000 := by omega
    clear ho ho2 hR1 hR2 hC1 hC2 hn
    go_enter Try.func29, Try.ntmps29
    go_wp2_with fail
    refine KO.out.mono ?_
    rintro e w1 ⟨rfl, hb1⟩
    have K1 := Hid.intro (k_trans K0.out hb1)
    have X1 := (hb1.block w.heap.size (by simp)).trans (newestB _ _)
    have g0 : w1.cell? ⟨w.heap.size, 0, none⟩ = some (.int .i64 (Rn : Int)) := cellB X1
    have g1 : w1.cell? ⟨w.heap.size, 1, none⟩ = some (.int .i64 C) := cellB X1
    have g2 : w1.cell? ⟨w.heap.size, 2, none⟩ = some (.slice ac gs.length cc) := cellB X1
    have KB := Hid.intro (implblocksOf Rn hRn C ac cc gs HC.out w1 (H.out.kept K1.out))
    clear hb1 X1 KO
    go_wp2_with fail
    refine KB.out.mono ?_
    rintro e w2 ⟨v, rfl, hv, hb2⟩
    have K2 := Hid.intro (k_trans K1.out hb2)
    have HV := Hid.intro hv
    clear hb2 hv KB
    rcases HV.out with ⟨rfl, _⟩ | ⟨g, cap, cur, rfl, _⟩
    · go_wp2
      go_ret
      exact ⟨_, rfl, by rw [HF.out]; exact HV.out.base K1.out.size (Nat.le_refl _), K2.out⟩
    · go_wp2
      go_ret
      exact ⟨_, rfl, by rw [HF.out]; exact HV.out.base K1.out.size (Nat.le_refl _), K2.out⟩
end Go.Proofs.Ytggmjiddadjilal
namespace Go.Proofs.Ytggmjiddadjilal
open Go.RowKit

theorem vB {a b : Bool} (h : a = b) : Value.bool a = .bool b := by rw [h]
/-- the table, its two slices at hand -/
def TA (w : World) (z : Nat) (ac ar : Option Addr) (cc cr : Nat) (t : T) : Prop := ColsAt w z (.slice ac t.cols.length cc) t.cols ∧ RowsAt w z (.slice ar t.rows.length cr) t.rows
theorem TA.kept {w w' : World} {z : Nat} {ac ar : Option Addr} {cc cr : Nat} {t : T} (h : TA w z ac ar cc cr t) (hb : Below w.heap.size w w') : TA w' z ac ar cc cr t := ⟨h.1.kept hb, h.2.kept hb⟩
/-- what stays all along -/
def St (w : World) (tb : Nat) (ac ar : Option Addr) (cc cr : Nat) (t : T) (W : World) : Prop := Below w.heap.size w W ∧ TA W w.heap.size ac ar cc cr t ∧ W.heap[tb]? = some (.cells #[.slice ac t.cols.length cc, .int .i64 t.head, .int .i64 t.foot, .slice ar t.rows.length cr, .int .i64 t.gap] 37)
theorem St.kept {w W W' : World} {tb : Nat} {ac ar : Option Addr} {cc cr : Nat} {t : T} (h : St w tb ac ar cc cr t W) (hb : Below W.heap.size W W') : St w tb ac ar cc cr t W' :=
  ⟨h.1.trans (hb.mono h.1.size), h.2.1.kept hb, (hb.block tb (Array.getElem?_eq_some_iff.1 h.2.2).1).trans h.2.2⟩
theorem St.at {w W : World} {tb : Nat} {ac ar : Option Addr} {cc cr : Nat} {t : T} (h : St w tb ac ar cc cr t W) : (W.cell? ⟨tb, 0, none⟩ = some (.slice ac t.cols.length cc) ∧ W.cell? ⟨tb, 1, none⟩ = some (.int .i64 t.head) ∧ W.cell? ⟨tb, 2, none⟩ = some (.int .i64 t.foot) ∧ W.cell? ⟨tb, 3, none⟩ = some (.slice ar t.rows.length cr) ∧ W.cell? ⟨tb, 4, none⟩ = some (.int .i64 t.gap)) := (fiveZ h.2.2).1
/-- the grid's cells are numbers -/
theorem gOf_gok {t : T} (hD : Drawn t) : ∀ x ∈ (gOf t).cells, GOk x := by
  unfold gOf
  split
  · rename_i h
    have hl := low_of h hD
    exact fun x hx => (stands_of hl hx).gok hl.rows
  · intro x hx
    cases hx
def SGr (w : World) (tb gb : Nat) (ac ar : Option Addr) (cc cr : Nat) (t : T) (ag : Option Addr) (cg : Nat) (W : World) : Prop :=
  St w tb ac ar cc cr t W ∧ GsAt W w.heap.size (.slice ag (gOf t).cells.length cg) (gOf t).cells ∧ W.heap[gb]? = some (.cells #[.int .i64 (gOf t).rows, .int .i64 (gOf t).cols, .slice ag (gOf t).cells.length cg] 42)
theorem SGr.kept {w W W' : World} {tb gb : Nat} {ac ar ag : Option Addr} {cc cr cg : Nat} {t : T} (h : SGr w tb gb ac ar cc cr t ag cg W) (hb : Below W.heap.size W W') : SGr w tb gb ac ar cc cr t ag cg W' :=
  ⟨h.1.kept hb, h.2.1.kept hb, (hb.block gb (Array.getElem?_eq_some_iff.1 h.2.2).1).trans h.2.2⟩
theorem SGr.at {w W : World} {tb gb : Nat} {ac ar ag : Option Addr} {cc cr cg : Nat} {t : T} (h : SGr w tb gb ac ar cc cr t ag cg W) : W.cell? ⟨gb, 0, none⟩ = some (.int .i64 (gOf t).rows) ∧ W.cell? ⟨gb, 1, none⟩ = some (.int .i64 (gOf t).cols) ∧ W.cell? ⟨gb, 2, none⟩ = some (.slice ag (gOf t).cells.length cg) :=
  ⟨cellB h.2.2, cellB h.2.2, cellB h.2.2⟩
theorem own_slice {w : World} {base : Nat} {v : Value} {gs : List GC} (h : OwnG w base v gs) : ∃ a cap, v = .slice a gs.length cap := by
  rcases h.2 with ⟨rfl, hn⟩ | ⟨g, cap, cur, rfl, _⟩
  · exact ⟨none, 0, by rw [hn]⟩
  · exact ⟨_, cap, rfl⟩
theorem gOf_ok {t : T} (h : tblB t = true) : gOf t = ⟨t.rows.length, colsOf (max 1 (t.cols.length : Int)) (gridOf t), gridOf t⟩ := by unfold gOf; rw [if_pos h]
theorem gOf_no {t : T} (h : tblB t = false) : gOf t = ⟨0, 0, []⟩ := by unfold gOf; rw [if_neg (by rw [h]; simp)]
/-- and a cell in its box -/
def SCe (w : World) (tb gb cb : Nat) (ac ar : Option Addr) (cc cr : Nat) (t : T) (ag : Option Addr) (cg : Nat) (x : GC) (W : World) : Prop :=
  SGr w tb gb ac ar cc cr t ag cg W ∧ W.heap[cb]? = some (.cells #[.int .i64 x.row, .int .i64 x.col, .int .i64 x.rows, .int .i64 x.cols, .int .i64 x.ins] 54)
theorem SCe.kept {w W W' : World} {tb gb cb : Nat} {ac ar ag : Option Addr} {cc cr cg : Nat} {t : T} {x : GC} (h : SCe w tb gb cb ac ar cc cr t ag cg x W) (hb : Below W.heap.size W W') : SCe w tb gb cb ac ar cc cr t ag cg x W' :=
  ⟨h.1.kept hb, (hb.block cb (Array.getElem?_eq_some_iff.1 h.2).1).trans h.2⟩
theorem SCe.at {w W : World} {tb gb cb : Nat} {ac ar ag : Option Addr} {cc cr cg : Nat} {t : T} {x : GC} (h : SCe w tb gb cb ac ar cc cr t ag cg x W) : W.cell? ⟨cb, 0, none⟩ = some (.int .i64 x.row) ∧ W.cell? ⟨cb, 1, none⟩ = some (.int .i64 x.col) ∧ W.cell? ⟨cb, 2, none⟩ = some (.int .i64 x.rows) ∧ W.cell? ⟨cb, 3, none⟩ = some (.int .i64 x.cols) ∧ W.cell? ⟨cb, 4, none⟩ = some (.int .i64 x.ins) :=
  ⟨cellB h.2, cellB h.2, cellB h.2, cellB h.2, cellB h.2⟩
/-- small numbers -/
def Small (x : GC) : Prop := (0 ≤ x.row ∧ x.row ≤ 8) ∧ (0 ≤ x.col ∧ x.col ≤ 84) ∧ (1 ≤ x.rows ∧ x.rows ≤ 3) ∧ (1 ≤ x.cols ∧ x.cols ≤ 4) ∧ 0 ≤ x.ins ∧ x.ins ≤ 4
theorem Stands.small {n : Nat} {a : GC} (hn : n ≤ 8) (h : Stands n a) : Small a := by
  unfold Stands at h
  unfold Small
  omega
end Go.Proofs.Ytggmjiddadjilal
