/-
  PROVED HERE: the law FnTblPart returns true at every code that lies in memory.
-/
import Derived.Test.YtfkfgmfahoeaoabDrawTP
import Derived.Test.YtfkfgmfahoeaoabTblPart
import Derived.Test.YtfkfgmfahoeaoabPwOk
import Derived.Test.YtfkfgmfahoeaoabQuietB
namespace Go.Proofs.Ytfkfgmfahoeaoab
open Go.RowKit Go.BigFrame

theorem partOf_ok {t : T} (h : tblB t = true) {q : Int} (h0 : 0 ≤ q) (h1 : q < t.rows.length) : partOf t q = if q < t.head then 0 else if (t.rows.length : Int) - t.foot ≤ q then 2 else 1 := by
  unfold partOf
  rw [if_pos ⟨h, inB_true h0 (by omega)⟩]
theorem partOf_out {t : T} {q : Int} (h : ¬ (0 ≤ q ∧ q < t.rows.length)) : partOf t q = -1 := by
  unfold partOf
  rw [if_neg]
  rintro ⟨_, h2⟩
  simp [inB] at h2
  omega
theorem partOf_bad {t : T} (h : tblB t = false) (q : Int) : partOf t q = -1 := by
  unfold partOf
  rw [if_neg]
  rintro ⟨h2, _⟩
  rw [h] at h2
  cases h2
/-- the table, its two slices at hand -/
def TV (ac ar : Option Addr) (cc cr : Nat) (t : T) : Value := .agg #[.slice ac t.cols.length cc, .int .i64 t.head, .int .i64 t.foot, .slice ar t.rows.length cr, .int .i64 t.gap]
def TA (w : World) (z : Nat) (ac ar : Option Addr) (cc cr : Nat) (t : T) : Prop := ColsAt w z (.slice ac t.cols.length cc) t.cols ∧ RowsAt w z (.slice ar t.rows.length cr) t.rows
theorem TA.kept {w w' : World} {z : Nat} {ac ar : Option Addr} {cc cr : Nat} {t : T} (h : TA w z ac ar cc cr t) (hb : Below w.heap.size w w') : TA w' z ac ar cc cr t := ⟨h.1.kept hb, h.2.kept hb⟩

set_option maxRecDepth 100000 in
set_option maxHeartbeats 2000000 in
theorem lawTblPart_walk (A : Option Addr) (len cap : Nat) (hlen : len ≤ 1048576) (w : World) (h : IsCode w A len cap) :
    Calls Try.prog 3 #[.slice A len cap] w fun e w' => e = .returned (.bool true) ∧ Below w.heap.size w w' := by
  have hl : ¬ (1048576 : Int) < (len : Int) := by omega
  have hmx : Try.prog.follows .mixedOrders = true := by kernel_rfl
  have HD := Hid.intro h
  clear h
  go_enter Try.func3, Try.ntmps3
  go_wp2_with fail
  refine (drawTblPart_any _ _ _ _ HD.out).mono ?_
  rintro e w1 ⟨ac, ar, cc, cr, t, q, rfl, hD, hq, hC1, hW1, hb1⟩
  have hz1 := hb1.size
  have K1 := k_alloc (Below.refl w1.heap.size w1) (.cells #[.slice ac t.cols.length cc, .int .i64 t.head, .int .i64 t.foot, .slice ar t.rows.length cr, .int .i64 t.gap] 26)
  have HB1 := Hid.intro (hb1.trans (K1.mono hb1.size))
  have HT1 : Hid (TA _ _ _ _ _ _ _) := Hid.intro (TA.kept ⟨hC1, hW1⟩ K1)
  have HX1 := Hid.intro (newestB w1 (.cells #[.slice ac t.cols.length cc, .int .i64 t.head, .int .i64 t.foot, .slice ar t.rows.length cr, .int .i64 t.gap] 26))
  have HDr := Hid.intro hD
  clear hC1 hW1 hb1 K1 hD HD
  obtain ⟨pq, hpq⟩ : ∃ pq, partOf t q = pq := ⟨_, rfl⟩
  have KP := Hid.intro (implTblPart ac ar cc cr t q _ HT1.out.1 HT1.out.2)
  rw [hpq] at KP
  have HPQ := Hid.intro hpq
  clear hpq
  go_wp2_with fail
  refine KP.out.mono ?_
  rintro e w2 ⟨rfl, hb2⟩
  have HB2 := Hid.intro (HB1.out.trans (hb2.mono (by have := HB1.out.size; omega)))
  have HT2 := Hid.intro (HT1.out.kept hb2)
  have HX2 := Hid.intro ((hb2.block w1.heap.size (by simp)).trans HX1.out)
  have hlt2 : w1.heap.size < w2.heap.size := (Array.getElem?_eq_some_iff.1 HX2.out).1
  clear HB1 HT1 HX1 hb2 KP
  have hne := bw_some w2
  have x0 := bw_cell (a := ⟨w1.heap.size, 0, none⟩) (v := .slice ac t.cols.length cc) hlt2 (cellB HX2.out)
  have x1 := bw_cell (a := ⟨w1.heap.size, 1, none⟩) (v := .int .i64 t.head) hlt2 (cellB HX2.out)
  have x2 := bw_cell (a := ⟨w1.heap.size, 2, none⟩) (v := .int .i64 t.foot) hlt2 (cellB HX2.out)
  have x3 := bw_cell (a := ⟨w1.heap.size, 3, none⟩) (v := .slice ar t.rows.length cr) hlt2 (cellB HX2.out)
  have x4 := bw_cell (a := ⟨w1.heap.size, 4, none⟩) (v := .int .i64 t.gap) hlt2 (cellB HX2.out)
  have KS := Hid.intro (fun p : BW w2 => specTblPart ac ar cc cr t q p.u (HT2.out.1.kept p.h) (HT2.out.2.kept p.h))
  have KI := Hid.intro (fun p : BW w2 => implTblOk ac ar cc cr t p.u (HT2.out.1.kept p.h) (HT2.out.2.kept p.h))
  have KO := Hid.intro (fun p : BW w2 => specTblOk ac ar cc cr t p.u (HT2.out.1.kept p.h) (HT2.out.2.kept p.h))
  rw [HPQ.out] at KS
  go_wp2_with fail
  refine wp_region_quiet_below hmx (by kernel_rfl) ?_
  repeat (go_big_quiet_step (first | refine bw_of (KS.out _) | refine bw_of (KI.out _) | refine bw_of (KO.out _)))
  refine wpQuiet_nil ?_
  intro W3 hw'
  obtain ⟨⟨Wx, hW3⟩, hw''⟩ := hw'
  subst hw''
  clear x0 x1 x2 x3 x4 KS KI KO hne
  have HB3 := Hid.intro (HB2.out.trans (hW3.mono (by omega)))
  have HT3 := Hid.intro (HT2.out.kept hW3)
  have HX3 := Hid.intro ((hW3.block w1.heap.size hlt2).trans HX2.out)
  have y0 : W3.cell? ⟨w1.heap.size, 0, none⟩ = some (.slice ac t.cols.length cc) := cellB HX3.out
  have y1 : W3.cell? ⟨w1.heap.size, 1, none⟩ = some (.int .i64 t.head) := cellB HX3.out
  have y2 : W3.cell? ⟨w1.heap.size, 2, none⟩ = some (.int .i64 t.foot) := cellB HX3.out
  have y3 : W3.cell? ⟨w1.heap.size, 3, none⟩ = some (.slice ar t.rows.length cr) := cellB HX3.out
  have y4 : W3.cell? ⟨w1.heap.size, 4, none⟩ = some (.int .i64 t.gap) := cellB HX3.out
  have KO := Hid.intro (specTblOk ac ar cc cr t W3 HT3.out.1 HT3.out.2)
  clear HB2 HT2 HX2 hW3
  cases htk : tblB t with
  | false =>
    rw [htk] at KO
    have hpq : pq = -1 := HPQ.out.symm.trans (partOf_bad htk q)
    subst hpq
    clear htk
    go_wp2_with fail
    refine KO.out.mono ?_
    rintro e w4 ⟨rfl, hb4⟩
    have HB4 := Hid.intro (HB3.out.trans (hb4.mono (by have := HB3.out.size; omega)))
    clear hb4 HB3 HT3 HX3
    go_wp2_with fail
    refine (pwOk_any _).mono ?_
    rintro e w5 ⟨rfl, rfl⟩
    go_wp2
    go_ret
    exact ⟨rfl, HB4.out⟩
  | true =>
    rw [htk] at KO
    obtain ⟨hn, hhd, hft⟩ := tblB_bounds htk
    have hhf : t.head + t.foot ≤ t.rows.length := by
      simp only [tblB, partsB, inB, Bool.and_eq_true, decide_eq_true_eq] at htk
      omega
    have HTK := Hid.intro htk
    clear htk
    go_wp2_with fail
    refine KO.out.mono ?_
    rintro e w4 ⟨rfl, hb4⟩
    have HB4 := Hid.intro (HB3.out.trans (hb4.mono (by have := HB3.out.size; omega)))
    have HT4 := Hid.intro (HT3.out.kept hb4)
    have HX4 := Hid.intro ((hb4.block w1.heap.size (Array.getElem?_eq_some_iff.1 HX3.out).1).trans HX3.out)
    clear hb4 HB3 HT3 HX3 y0 y1 y2 y3 y4 KO
    go_wp2_with fail
    go_loopw [6, 7, 8, 9] (fun h f r _ W => ∃ (k : Nat) (a b : Int), h = .int .i64 a ∧ f = .int .i64 b ∧ r = .int .i64 k ∧ k ≤ t.rows.length ∧ (0 ≤ a ∧ a ≤ 8) ∧ (0 ≤ b ∧ b ≤ 8) ∧ Hid (a = min (k : Int) t.head ∧ b = max 0 ((k : Int) - (t.rows.length - t.foot))) ∧ Hid (Below w.heap.size w W) ∧ Hid (TA W w.heap.size ac ar cc cr t) ∧ Hid (W.heap[w1.heap.size]? = some (.cells #[.slice ac t.cols.length cc, .int .i64 t.head, .int .i64 t.foot, .slice ar t.rows.length cr, .int .i64 t.gap] 26))) (fun _ _ r _ _ => t.rows.length - (intOf r).toNat)
    case atStart => exact ⟨0, 0, 0, rfl, rfl, rfl, by omega, by omega, by omega, ⟨by omega, by omega⟩, HB4, HT4, HX4⟩
    case round =>
      obtain ⟨k, a, b, rfl, rfl, rfl, hk, ha, hb, HAB, HB, HT, HX⟩ := hrel
      have y0 : wr.cell? ⟨w1.heap.size, 0, none⟩ = some (.slice ac t.cols.length cc) := cellB HX.out
      have y1 : wr.cell? ⟨w1.heap.size, 1, none⟩ = some (.int .i64 t.head) := cellB HX.out
      have y2 : wr.cell? ⟨w1.heap.size, 2, none⟩ = some (.int .i64 t.foot) := cellB HX.out
      have y3 : wr.cell? ⟨w1.heap.size, 3, none⟩ = some (.slice ar t.rows.length cr) := cellB HX.out
      have y4 : wr.cell? ⟨w1.heap.size, 4, none⟩ = some (.int .i64 t.gap) := cellB HX.out
      by_cases hlt : k < t.rows.length
      · have hlt' : (k : Int) < (t.rows.length : Int) := by omega
        obtain ⟨c, hc, hcc⟩ : ∃ c, partOf t k = c ∧ (c = 0 ∧ (k : Int) < t.head ∨ c = 2 ∧ ¬ (k : Int) < t.head ∧ (t.rows.length : Int) - t.foot ≤ k ∨ c = 1 ∧ ¬ (k : Int) < t.head ∧ ¬ (t.rows.length : Int) - t.foot ≤ k) := by
          refine ⟨_, rfl, ?_⟩
          rw [partOf_ok HTK.out (by omega) hlt']
          split
          · exact .inl ⟨rfl, by assumption⟩
          · split
            · exact .inr (.inl ⟨rfl, by assumption, by assumption⟩)
            · exact .inr (.inr ⟨rfl, by assumption, by assumption⟩)
        obtain ⟨c', hc', hcl⟩ : ∃ c', partOf t ((k : Int) - 1) = c' ∧ ¬ c < c' := by
          refine ⟨_, rfl, ?_⟩
          by_cases h0 : k = 0
          · rw [partOf_out (by omega)]
            omega
          · rw [partOf_ok HTK.out (by omega) (by omega)]
            split
            · omega
            · split <;> omega
        have K8 := Hid.intro (fun (W : World) (hb : Below wr.heap.size wr W) => implTblPart ac ar cc cr t k W (HT.out.1.kept hb) (HT.out.2.kept hb))
        have K9 := Hid.intro (fun (W : World) (hb : Below wr.heap.size wr W) => implTblPart ac ar cc cr t ((k : Int) - 1) W (HT.out.1.kept hb) (HT.out.2.kept hb))
        rw [hc] at K8
        rw [hc'] at K9
        have hcx : 0 ≤ c ∧ c ≤ 2 := by omega
        have HCC := Hid.intro hcc
        clear hc hc' hcc
        go_wp2_with fail
        refine (K8.out wr (Below.refl _ _)).mono ?_
        rintro e w5 ⟨rfl, hb5⟩
        have z0 : w5.cell? ⟨w1.heap.size, 0, none⟩ = some (.slice ac t.cols.length cc) := (hb5.cell (p := ⟨w1.heap.size, 0, none⟩) (Array.getElem?_eq_some_iff.1 HX.out).1).trans y0
        have z1 : w5.cell? ⟨w1.heap.size, 1, none⟩ = some (.int .i64 t.head) := (hb5.cell (p := ⟨w1.heap.size, 1, none⟩) (Array.getElem?_eq_some_iff.1 HX.out).1).trans y1
        have z2 : w5.cell? ⟨w1.heap.size, 2, none⟩ = some (.int .i64 t.foot) := (hb5.cell (p := ⟨w1.heap.size, 2, none⟩) (Array.getElem?_eq_some_iff.1 HX.out).1).trans y2
        have z3 : w5.cell? ⟨w1.heap.size, 3, none⟩ = some (.slice ar t.rows.length cr) := (hb5.cell (p := ⟨w1.heap.size, 3, none⟩) (Array.getElem?_eq_some_iff.1 HX.out).1).trans y3
        have z4 : w5.cell? ⟨w1.heap.size, 4, none⟩ = some (.int .i64 t.gap) := (hb5.cell (p := ⟨w1.heap.size, 4, none⟩) (Array.getElem?_eq_some_iff.1 HX.out).1).trans y4
        have HX5 := Hid.intro ((hb5.block w1.heap.size (Array.getElem?_eq_some_iff.1 HX.out).1).trans HX.out)
        have HB5 := Hid.intro hb5
        clear hb5 y0 y1 y2 y3 y4 K8
        have hc0 : ¬ c < 0 := by omega
        have hc2 : ¬ (2 : Int) < c := by omega
        have HK9 : Hid (∀ W, Below w5.heap.size w5 W → Calls Try.prog 8 #[.agg #[.slice ac t.cols.length cc, .int .i64 t.head, .int .i64 t.foot, .slice ar t.rows.length cr, .int .i64 t.gap], .int .i64 ((k : Int) - 1)] W fun e w' => e = .returned (.int .i64 c') ∧ Below W.heap.size W w') := fun W hW => K9.out W (k_trans HB5.out hW)
        clear K9
        have HKT := Hid.intro (fun (W : World) (hW : Below w5.heap.size w5 W) => (⟨HB.out.trans ((k_trans HB5.out hW).mono (by have := HB.out.size; omega)), HT.out.kept (k_trans HB5.out hW), (hW.block w1.heap.size (Array.getElem?_eq_some_iff.1 HX5.out).1).trans HX5.out⟩ : Below w.heap.size w W ∧ TA W w.heap.size ac ar cc cr t ∧ W.heap[w1.heap.size]? = some (.cells #[.slice ac t.cols.length cc, .int .i64 t.head, .int .i64 t.foot, .slice ar t.rows.length cr, .int .i64 t.gap] 26)))
        clear HB HT HX HB5 HX5
        rcases HCC.out with ⟨rfl, h1⟩ | ⟨rfl, h1, h2⟩ | ⟨rfl, h1, h2⟩
        · have HAB2 : Hid ((a + 1) = min ((k + 1 : Nat) : Int) t.head ∧ (b) = max 0 (((k + 1 : Nat) : Int) - (t.rows.length - t.foot))) := by
            have := HAB.out
            constructor <;> omega
          have hab : (0 ≤ a + 1 ∧ a + 1 ≤ 8) ∧ 0 ≤ b ∧ b ≤ 8 := by have := HAB2.out; omega
          clear HAB HCC
          by_cases h0 : k = 0
          · subst h0
            have HZ := Hid.intro (HKT.out w5 (Below.refl _ _))
            clear HKT HK9
            go_wp2
            go_roundw
            case rel => exact ⟨0 + 1, a + 1, b, rfl, rfl, rfl, by omega, hab.1, hab.2, HAB2, HZ.out.1, HZ.out.2.1, HZ.out.2.2⟩
            case measure => simp [intOf]; omega
          · have h0' : (0 : Int) < (k : Int) := by omega
            go_wp2_with fail
            refine (HK9.out w5 (Below.refl _ _)).mono ?_
            rintro e w6 ⟨rfl, hb6⟩
            have HZ := Hid.intro (HKT.out w6 hb6)
            clear HKT HK9 hb6 z0 z1 z2 z3 z4
            go_wp2
            go_roundw
            case rel => exact ⟨k + 1, a + 1, b, rfl, rfl, by go_num, by omega, hab.1, hab.2, HAB2, HZ.out.1, HZ.out.2.1, HZ.out.2.2⟩
            case measure => simp [intOf]; omega
        · have HAB2 : Hid ((a) = min ((k + 1 : Nat) : Int) t.head ∧ (b + 1) = max 0 (((k + 1 : Nat) : Int) - (t.rows.length - t.foot))) := by
            have := HAB.out
            constructor <;> omega
          have hab : (0 ≤ a ∧ a ≤ 8) ∧ 0 ≤ b + 1 ∧ b + 1 ≤ 8 := by have := HAB2.out; omega
          clear HAB HCC
          by_cases h0 : k = 0
          · subst h0
            have HZ := Hid.intro (HKT.out w5 (Below.refl _ _))
            clear HKT HK9
            go_wp2
            go_roundw
            case rel => exact ⟨0 + 1, a, b + 1, rfl, rfl, rfl, by omega, hab.1, hab.2, HAB2, HZ.out.1, HZ.out.2.1, HZ.out.2.2⟩
            case measure => simp [intOf]; omega
          · have h0' : (0 : Int) < (k : Int) := by omega
            go_wp2_with fail
            refine (HK9.out w5 (Below.refl _ _)).mono ?_
            rintro e w6 ⟨rfl, hb6⟩
            have HZ := Hid.intro (HKT.out w6 hb6)
            clear HKT HK9 hb6 z0 z1 z2 z3 z4
            go_wp2
            go_roundw
            case rel => exact ⟨k + 1, a, b + 1, rfl, rfl, by go_num, by omega, hab.1, hab.2, HAB2, HZ.out.1, HZ.out.2.1, HZ.out.2.2⟩
            case measure => simp [intOf]; omega
        · have HAB2 : Hid ((a) = min ((k + 1 : Nat) : Int) t.head ∧ (b) = max 0 (((k + 1 : Nat) : Int) - (t.rows.length - t.foot))) := by
            have := HAB.out
            constructor <;> omega
          have hab : (0 ≤ a ∧ a ≤ 8) ∧ 0 ≤ b ∧ b ≤ 8 := by have := HAB2.out; omega
          clear HAB HCC
          by_cases h0 : k = 0
          · subst h0
            have HZ := Hid.intro (HKT.out w5 (Below.refl _ _))
            clear HKT HK9
            go_wp2
            go_roundw
            case rel => exact ⟨0 + 1, a, b, rfl, rfl, rfl, by omega, hab.1, hab.2, HAB2, HZ.out.1, HZ.out.2.1, HZ.out.2.2⟩
            case measure => simp [intOf]; omega
          · have h0' : (0 : Int) < (k : Int) := by omega
            go_wp2_with fail
            refine (HK9.out w5 (Below.refl _ _)).mono ?_
            rintro e w6 ⟨rfl, hb6⟩
            have HZ := Hid.intro (HKT.out w6 hb6)
            clear HKT HK9 hb6 z0 z1 z2 z3 z4
            go_wp2
            go_roundw
            case rel => exact ⟨k + 1, a, b, rfl, rfl, by go_num, by omega, hab.1, hab.2, HAB2, HZ.out.1, HZ.out.2.1, HZ.out.2.2⟩
            case measure => simp [intOf]; omega
      · obtain rfl : k = t.rows.length := by omega
        have ha1 : a = t.head := by have := HAB.out; omega
        have hb1 : b = t.foot := by have := HAB.out; omega
        subst ha1 hb1
        clear HAB HT HX hk
        by_cases hq1 : q < 0
        · have hpq : pq = -1 := HPQ.out.symm.trans (partOf_out (by omega))
          subst hpq
          clear HPQ
          go_wp2
          go_ret
          exact ⟨rfl, HB.out⟩
        · by_cases hq2 : (t.rows.length : Int) ≤ q
          · have hpq : pq = -1 := HPQ.out.symm.trans (partOf_out (by omega))
            subst hpq
            clear HPQ
            go_wp2
            go_ret
            exact ⟨rfl, HB.out⟩
          · have hpq : (pq == -1) = false := by
              rw [← HPQ.out, partOf_ok HTK.out (by omega) (by omega)]
              split
              · rfl
              · split <;> rfl
            clear HPQ
            go_wp2
            go_ret
            exact ⟨rfl, HB.out⟩

theorem lawTblPart (a : Option Addr) (len cap : Nat) (w : World) (h : IsCode w a len cap) :
    Calls Try.prog 3 #[.slice a len cap] w fun e w' => e = .returned (.bool true) ∧ Below w.heap.size w w' := by
  by_cases hl : len ≤ 1048576
  · exact lawTblPart_walk a len cap hl w h
  · have hl' : (1048576 : Int) < (len : Int) := by omega
    clear h
    go_enter Try.func3, Try.ntmps3
    go_wp2
    go_ret
    exact ⟨rfl, Below.refl _ _⟩
end Go.Proofs.Ytfkfgmfahoeaoab
