/-
  PROVED HERE: the model's ColWish at a drawn table is the list wishL, in memory of its own; nothing that was in memory is turned. Also: the laws' own pwText is the text of a cell at its place in a drawn table; nothing that was in memory is turned. Also: the law FnColWish returns true at every code that lies in memory.
-/
import Derived.Test.YtkppaokkopfklaeB43
import Derived.Test.YtkppaokkopfklaeB37
import Derived.Test.YtkppaokkopfklaeB39
import Derived.Test.YtkppaokkopfklaeB35
import Derived.Deep.DeepCutAuto
import Derived.Deep.RegionWith
import Derived.Deep.QuietTactic
import Derived.BigQuiet
namespace Go.Proofs.Ytkppaokkopfklae
open Go.RowKit

theorem wishL_no {t : T} (h : tblB t = false) : wishL t = [] := List.eq_nil_of_length_eq_zero (by rw [wishL_len, colN, gOf_no h]; rfl)
set_option maxRecDepth 100000 in
set_option maxHeartbeats 1000000 in
theorem specColWish (ac ar : Option Addr) (cc cr : Nat) (t : T) (hD : Drawn t) (w : World) {z : Nat} (hc : ColsAt w z (.slice ac t.cols.length cc) t.cols) (hr : RowsAt w z (.slice ar t.rows.length cr) t.rows) :
    Calls Try.prog 9 #[.agg #[.slice ac t.cols.length cc, .int .i64 t.head, .int .i64 t.foot, .slice ar t.rows.length cr, .int .i64 t.gap]] w fun e w' => ∃ v, e = .returned v ∧ RowI w' w.heap.size w'.heap.size v (wishL t) ∧ Below w.heap.size w w' := by
  have K0 := k_alloc (Below.refl w.heap.size w) (.cells #[.slice ac t.cols.length cc, .int .i64 t.head, .int .i64 t.foot, .slice ar t.rows.length cr, .int .i64 t.gap] 26)
  have X0 := newestB w (.cells #[.slice ac t.cols.length cc, .int .i64 t.head, .int .i64 t.foot, .slice ar t.rows.length cr, .int .i64 t.gap] 26)
  obtain ⟨W0, hW0⟩ : ∃ W0, w.alloc (.cells #[.slice ac t.cols.length cc, .int .i64 t.head, .int .i64 t.foot, .slice ar t.rows.length cr, .int .i64 t.gap] 26) = W0 := ⟨_, rfl⟩
  rw [hW0] at K0 X0
  have HP : Hid (Below w.heap.size w W0 ∧ TA W0 z ac ar cc cr t ∧ W0.heap[w.heap.size]? = some (.cells #[.slice ac t.cols.length cc, .int .i64 t.head, .int .i64 t.foot, .slice ar t.rows.length cr, .int .i64 t.gap] 26)) := ⟨K0, ⟨hc.kept K0, hr.kept K0⟩, X0⟩
  have KO := Hid.intro (specTblOk ac ar cc cr t W0 HP.out.2.1.1 HP.out.2.1.2)
  obtain ⟨b0, b1, b2, b3, b4⟩ := fiveO X0
  clear hc hr K0 X0
  cases htk : tblB t with
  | false =>
    rw [htk] at KO
    have HE := Hid.intro (wishL_no htk)
    clear htk
    go_enter Try.func9, Try.ntmps9
    go_upto_region 1 with fail
    clear hW0
    go_wp2_with fail
    refine KO.out.mono ?_
    rintro e w1 ⟨rfl, hb1⟩
    have HK1 := Hid.intro (k_trans HP.out.1 hb1)
    clear hb1 KO b0 b1 b2 b3 b4 HP
    go_wp2
    go_ret
    exact ⟨_, rfl, by rw [HE.out]; exact row_lit0 _ _ HK1.out.size, k_alloc HK1.out _⟩
  | true =>
    rw [htk] at KO
    have K3 := Hid.intro (fun W h => l3Of_g ac ar cc cr t hD htk W (z := z) h)
    have KL := Hid.intro (fun ag cg W zg h1 h2 h3 => specl5Wish ac ar cc cr t hD ag cg W (z := z) (zg := zg) h1 h2 h3 htk)
    clear htk hD
    go_enter Try.func9, Try.ntmps9
    go_upto_region 1 with fail
    clear hW0
    go_wp2_with fail
    refine KO.out.mono ?_
    rintro e w1 ⟨rfl, hb1⟩
    have HP1 : Hid (Below w.heap.size w w1 ∧ TA w1 z ac ar cc cr t ∧ w1.heap[w.heap.size]? = some (.cells #[.slice ac t.cols.length cc, .int .i64 t.head, .int .i64 t.foot, .slice ar t.rows.length cr, .int .i64 t.gap] 26)) := ⟨k_trans HP.out.1 hb1, HP.out.2.1.kept hb1, (hb1.block _ (Array.getElem?_eq_some_iff.1 HP.out.2.2).1).trans HP.out.2.2⟩
    clear hb1 KO b0 b1 b2 b3 b4 HP
    go_upto_region 3 with fail
    obtain ⟨b0, b1, b2, b3, b4⟩ := fiveO HP1.out.2.2
    have ht1 := (Array.getElem?_eq_some_iff.1 HP1.out.2.2).1
    have HTd : Hid (TA w1.drew z ac ar cc cr t) := HP1.out.2.1.kept (k_drew (Below.refl _ _))
    have HBd := Hid.intro (k_drew HP1.out.1)
    have HXd : Hid (w1.drew.heap[w.heap.size]? = some (.cells #[.slice ac t.cols.length cc, .int .i64 t.head, .int .i64 t.foot, .slice ar t.rows.length cr, .int .i64 t.gap] 26)) := HP1.out.2.2
    go_region_with (first
      | (go_at_call 28; refine (K3.out _ HTd.out.2).mono ?_; rintro e w2 ⟨ag, cg, rfl, hG2, hb2⟩; have HG2 := Hid.intro hG2; have HT2 := Hid.intro (HTd.out.kept hb2); have HB2 := Hid.intro (k_trans HBd.out hb2); have HX2 := Hid.intro ((hb2.block _ (Array.getElem?_eq_some_iff.1 HXd.out).1).trans HXd.out); clear hG2 hb2; obtain ⟨p0, p1, p2, p3, p4⟩ := fiveO HX2.out; have ht2 := (Array.getElem?_eq_some_iff.1 HX2.out).1)
      | (go_at_call 27; refine (KL.out ag cg _ _ HT2.out.1 HT2.out.2 HG2.out).mono ?_; rintro e w3 ⟨v3, rfl, hr3, hb3⟩; have R3 := Hid.intro (hr3.base (B' := w.heap.size) HB2.out.size (Nat.le_refl _)); have HB3 := Hid.intro (k_trans HB2.out hb3); clear hr3 hb3))
    all_goals
      go_wp2
      go_ret
      exact ⟨_, rfl, R3.out, HB3.out⟩
end Go.Proofs.Ytkppaokkopfklae
namespace Go.Proofs.Ytkppaokkopfklae
open Go.RowKit

set_option maxRecDepth 100000 in
set_option maxHeartbeats 2000000 in
theorem lawspwText (ac ar : Option Addr) (cc cr : Nat) (t : T) (x : GC) {C : Nat} (hx : Cel t C x) (w : World) {z : Nat} (hr : RowsAt w z (.slice ar t.rows.length cr) t.rows) :
    Calls Try.prog 15 #[.agg #[.slice ac t.cols.length cc, .int .i64 t.head, .int .i64 t.foot, .slice ar t.rows.length cr, .int .i64 t.gap], .agg #[.int .i64 x.row, .int .i64 x.col, .int .i64 x.rows, .int .i64 x.cols, .int .i64 x.ins]] w fun e w' => e = .returned (.string (textOf t x)) ∧ (textOf t x).size ≤ maxLen ∧ Below w.heap.size w w' := by
  obtain ⟨rn, jn, cn, mn, e1, e2, e3, e4, h1, h2, h3, h4, h5⟩ := hx.ex
  have HTx : Hid (textOf t x = ((t.rows.getD rn dR).cells.getD jn dC).s) := by rw [Hid, textOf, e1, e2, Int.toNat_natCast, Int.toNat_natCast]
  have K1 := k_alloc (Below.refl w.heap.size w) (.cells #[.slice ac t.cols.length cc, .int .i64 t.head, .int .i64 t.foot, .slice ar t.rows.length cr, .int .i64 t.gap] 26)
  have X1 := newestB w (.cells #[.slice ac t.cols.length cc, .int .i64 t.head, .int .i64 t.foot, .slice ar t.rows.length cr, .int .i64 t.gap] 26)
  have hs1 : (w.alloc (.cells #[.slice ac t.cols.length cc, .int .i64 t.head, .int .i64 t.foot, .slice ar t.rows.length cr, .int .i64 t.gap] 26)).heap.size = w.heap.size + 1 := by simp
  rw [e1, e2]
  clear e1 e2 e3 e4
  go_enter Try.func15, Try.ntmps15
  go_upto_region 1 with fail
  have K2 := k_alloc K1 (.cells #[.int .i64 (rn : Int), .int .i64 x.col, .int .i64 x.rows, .int .i64 x.cols, .int .i64 (jn : Int)] 39)
  have X2 := newestB (w.alloc (.cells #[.slice ac t.cols.length cc, .int .i64 t.head, .int .i64 t.foot, .slice ar t.rows.length cr, .int .i64 t.gap] 26)) (.cells #[.int .i64 (rn : Int), .int .i64 x.col, .int .i64 x.rows, .int .i64 x.cols, .int .i64 (jn : Int)] 39)
  have X1' := (Below.heap_alloc (w.alloc (.cells #[.slice ac t.cols.length cc, .int .i64 t.head, .int .i64 t.foot, .slice ar t.rows.length cr, .int .i64 t.gap] 26)) (.cells #[.int .i64 (rn : Int), .int .i64 x.col, .int .i64 x.rows, .int .i64 x.cols, .int .i64 (jn : Int)] 39) w.heap.size (by omega)).trans X1
  rw [hs1] at X2
  generalize (w.alloc (.cells #[.slice ac t.cols.length cc, .int .i64 t.head, .int .i64 t.foot, .slice ar t.rows.length cr, .int .i64 t.gap] 26)).alloc (.cells #[.int .i64 (rn : Int), .int .i64 x.col, .int .i64 x.rows, .int .i64 x.cols, .int .i64 (jn : Int)] 39) = W at K2 X2 X1' ⊢
  obtain ⟨rb, roff, rcap, re, rc1, rc2, rbl, u, hu0, _, hu⟩ := At.get (hr.kept K2) h1
  simp only [Value.slice.injEq, true_and] at re
  obtain ⟨rfl, rfl⟩ := re
  obtain ⟨qb, qoff, qcap, qe, qc1, qc2, qbl, hv, hsl⟩ := At.get hu h2
  subst qe
  have v0 := hv.1
  have q3 := cellB (p := 3) X1'
  have q0 := cellB (p := 0) X2
  have q4 := cellB (p := 4) X2
  have HSZ : Hid ((textOf t x).size ≤ maxLen) := by rw [Hid, HTx.out]; exact hsl
  have HK := Hid.intro K2
  unfold maxLen at rc2 qc2
  generalize (t.rows.getD rn dR).cells.getD jn dC = y at v0 hsl HTx
  generalize (t.rows.getD rn dR).cells.length = rl at hu0 h2 qc1
  clear hu hv hr h3 h4 h5 hx K1 X1 hs1 K2 X2 X1'
  go_quiet (fail)
  go_wp2
  go_ret
  exact ⟨by rw [HTx.out]; rfl, HSZ.out, k_drewN HK.out nq⟩
end Go.Proofs.Ytkppaokkopfklae
namespace Go.Proofs.Ytkppaokkopfklae
open Go.RowKit Go.BigFrame

set_option maxRecDepth 100000 in
set_option maxHeartbeats 1000000 in
theorem lawColWish_walk (A : Option Addr) (len cap : Nat) (hlen : len ≤ 1048576) (w : World) (h : IsCode w A len cap) :
    Calls Try.prog 3 #[.slice A len cap] w fun e w' => e = .returned (.bool true) ∧ Below w.heap.size w w' := by
  have hl : ¬ (1048576 : Int) < (len : Int) := by omega
  have hmx : Try.prog.follows .mixedOrders = true := by kernel_rfl
  have HD := Hid.intro h
  clear h
  go_enter Try.func3, Try.ntmps3
  go_wp2_with fail
  refine (drawColWish_any _ _ _ _ HD.out).mono ?_
  rintro e w1 ⟨ac, ar, cc, cr, t, rfl, hD, hC1, hW1, hb1⟩
  have HS : Hid (St w w1.heap.size ac ar cc cr t (w1.alloc (.cells #[.slice ac t.cols.length cc, .int .i64 t.head, .int .i64 t.foot, .slice ar t.rows.length cr, .int .i64 t.gap] 26))) := ⟨hb1.alloc hb1.size _, TA.kept ⟨hC1, hW1⟩ (k_alloc (Below.refl _ _) _), newestB _ _⟩
  have HDr := Hid.intro hD
  have HzW : Hid (w.heap.size ≤ w1.heap.size) := hb1.size
  obtain ⟨h40, C, hgc, hC88, hcel⟩ := cel_of hD
  have HCel := Hid.intro hcel
  have HGC := Hid.intro hgc
  have hlL : (leastL t).length = C := by rw [leastL_len, colN_of hgc]
  have hlW : (wishL t).length = C := by rw [wishL_len, colN_of hgc]
  have HUp := Hid.intro (wishL_up hD)
  have HLe := Hid.intro (wish_least t)
  have HHas := Hid.intro (fun k hk => wish_has hD (k := k) hk)
  have HGk := Hid.intro (gOf_gok hD)
  clear hC1 hW1 hb1 hD HD hcel hgc
  go_upto_region 4 with fail
  generalize w1.alloc (.cells #[.slice ac t.cols.length cc, .int .i64 t.head, .int .i64 t.foot, .slice ar t.rows.length cr, .int .i64 t.gap] 26) = W1 at HS ⊢
  generalize w1.heap.size = tb at HS HzW ⊢
  obtain ⟨z0, z1, z2, z3, z4⟩ := HS.out.at
  have htb := (Array.getElem?_eq_some_iff.1 HS.out.2.2).1
  go_wp2_with fail
  refine (implColWish ac ar cc cr t HDr.out _ HS.out.2.1.1 HS.out.2.1.2).mono ?_
  rintro e w2 ⟨v2, rfl, hR2, hb2⟩
  obtain ⟨al, cl, rfl⟩ := hR2.form
  rw [hlW] at hR2 ⊢
  have HI2 := Hid.intro hR2.at
  have HS2 := Hid.intro (HS.out.kept hb2)
  clear hR2 hb2 HS z0 z1 z2 z3 z4 htb
  obtain ⟨z0, z1, z2, z3, z4⟩ := HS2.out.at
  have htb := (Array.getElem?_eq_some_iff.1 HS2.out.2.2).1
  go_wp2_with fail
  refine (implColLeast ac ar cc cr t HDr.out _ HS2.out.2.1.1 HS2.out.2.1.2).mono ?_
  rintro e w3 ⟨v3, rfl, hR3, hb3⟩
  obtain ⟨am, cm, rfl⟩ := hR3.form
  rw [hlL] at hR3 ⊢
  have HI3 := Hid.intro (HI2.out.kept hb3)
  have HM3 := Hid.intro hR3.at
  have HS3 := Hid.intro (HS2.out.kept hb3)
  clear hR3 hb3 HS2 HI2 z0 z1 z2 z3 z4 htb
  obtain ⟨z0, z1, z2, z3, z4⟩ := HS3.out.at
  have htb := (Array.getElem?_eq_some_iff.1 HS3.out.2.2).1
  go_wp2_with fail
  refine (specColWish ac ar cc cr t HDr.out _ HS3.out.2.1.1 HS3.out.2.1.2).mono ?_
  rintro e w3b ⟨v3, rfl, hR3, hb3⟩
  obtain ⟨a3, c3, rfl⟩ := hR3.form
  rw [hlW] at hR3 ⊢
  have HIb := Hid.intro (HI3.out.kept hb3)
  have HMb := Hid.intro (HM3.out.kept hb3)
  have HJb := Hid.intro hR3.at
  have HSb := Hid.intro (HS3.out.kept hb3)
  clear hR3 hb3 HS3 HI3 HM3 z0 z1 z2 z3 z4 htb
  go_wp2_with fail
  refine (pwInts_any _ _ (wishL t) _ HIb.out HJb.out).mono ?_
  rintro e w4 ⟨rfl, n4, e4⟩
  have HI4 : Hid (IntsAt w4 (.slice al C cl) (wishL t)) := by rw [e4]; exact HIb.out.kept (k_drewN (Below.refl _ _) n4)
  have HM4 : Hid (IntsAt w4 (.slice am C cm) (leastL t)) := by rw [e4]; exact HMb.out.kept (k_drewN (Below.refl _ _) n4)
  have HS4 : Hid (St w tb ac ar cc cr t w4) := by rw [e4]; exact HSb.out.kept (k_drewN (Below.refl _ _) n4)
  clear e4 HIb HJb HSb HMb
  obtain ⟨z0, z1, z2, z3, z4⟩ := HS4.out.at
  have htb := (Array.getElem?_eq_some_iff.1 HS4.out.2.2).1
  have KO := Hid.intro (specTblOk ac ar cc cr t w4 HS4.out.2.1.1 HS4.out.2.1.2)
  cases htk : tblB t with
  | false =>
    rw [htk] at KO
    obtain rfl : C = 0 := by rw [← hlW, wishL_no htk]; rfl
    clear htk
    go_wp2_with fail
    refine KO.out.mono ?_
    rintro e w5 ⟨rfl, hb5⟩
    have HK5 := Hid.intro (HS4.out.kept hb5).1
    clear hb5 KO z0 z1 z2 z3 z4
    go_wp2_with fail
    refine (pwOk_any _).mono ?_
    rintro e w6 ⟨rfl, rfl⟩
    go_wp2
    go_ret
    exact ⟨rfl, HK5.out⟩
  | true =>
    rw [htk] at KO
    clear htk
    go_wp2_with fail
    refine KO.out.mono ?_
    rintro e w5 ⟨rfl, hb5⟩
    have HS5 := Hid.intro (HS4.out.kept hb5)
    have HI5 := Hid.intro (HI4.out.kept hb5)
    have HM5 := Hid.intro (HM4.out.kept hb5)
    clear hb5 KO z0 z1 z2 z3 z4 htb HS4 HI4 HM4
    go_wp2_with fail
    go_loopw [6] (fun s W => ∃ j : Nat, s = .int .i64 j ∧ j ≤ C ∧ Hid (Below w5.heap.size w5 W)) (fun s _ => C - (intOf s).toNat)
    case atStart => exact ⟨0, rfl, Nat.zero_le _, Below.refl _ _⟩
    case round =>
      obtain ⟨j, rfl, hj, HB⟩ := hrel
      have HSr := Hid.intro (HS5.out.kept HB.out)
      have HIr := Hid.intro (HI5.out.kept HB.out)
      have HMr := Hid.intro (HM5.out.kept HB.out)
      clear HS5 HI5 HM5
      by_cases hjl : j < C
      case pos => as_aux_lemma =>
        obtain ⟨b, off, cap', e', hc1, hc2, hbl, hx⟩ := HIr.out.get (i := j) (by omega)
        rw [hlW] at e' hc1
        simp only [Value.slice.injEq, true_and] at e'
        obtain ⟨rfl, rfl⟩ := e'
        obtain ⟨b2, off2, cap2, e2, hc12, hc22, hbl2, hy⟩ := HMr.out.get (i := j) (by omega)
        rw [hlL] at e2 hc12
        simp only [Value.slice.injEq, true_and] at e2
        obtain ⟨rfl, rfl⟩ := e2
        unfold maxLen at hc2 hc22
        have hle := HLe.out.2 j (by omega)
        generalize (wishL t).getD j 0 = x at hx hle
        generalize (leastL t).getD j 0 = y at hy hle
        have hnl : ¬ x < y := by omega
        have hne := bw_some wr
        have m1 := bw_cell hbl hx
        have m2 := bw_cell hbl2 hy
        clear hx hy hle
        go_upto_region 13 with fail
        refine wp_region_quiet_below hmx (by kernel_rfl) ?_
        repeat (go_big_quiet_step (fail))
        refine wpQuiet_nil ?_
        intro W9 hw'
        obtain ⟨⟨Wx, hW9⟩, hw''⟩ := hw'
        subst hw''
        have HB9 := Hid.intro (k_trans HB.out hW9)
        clear m1 m2 hne hW9
        go_wp2
        go_roundw
        case rel => exact ⟨j + 1, by go_num, by omega, HB9⟩
        case measure => simp [intOf]; omega
      obtain rfl : j = C := by omega
      obtain ⟨z0, z1, z2, z3, z4⟩ := HSr.out.at
      have htb := (Array.getElem?_eq_some_iff.1 HSr.out.2.2).1
      go_wp2_with fail
      refine (implGrdOf ac ar cc cr t HDr.out _ HSr.out.2.1.1 HSr.out.2.1.2).mono ?_
      rintro e w6 ⟨vg, rfl, hO6, hb6⟩
      obtain ⟨ag, cg, rfl⟩ := own_slice hO6
      have hG6 := hO6.at (gOf_gok HDr.out)
      have HG : Hid (SGr w tb w6.heap.size ac ar cc cr t ag cg (w6.alloc (.cells #[.int .i64 (gOf t).rows, .int .i64 (gOf t).cols, .slice ag (gOf t).cells.length cg] 35))) :=
        ⟨(HSr.out.kept hb6).kept (k_alloc (Below.refl _ _) _), (hG6.base (by have := HSr.out.1.size; omega)).kept (k_alloc (Below.refl _ _) _), newestB _ _⟩
      have HI6 := Hid.intro ((HIr.out.kept hb6).kept (k_alloc (Below.refl _ _) (.cells #[.int .i64 (gOf t).rows, .int .i64 (gOf t).cols, .slice ag (gOf t).cells.length cg] 35)))
      clear hO6 hb6 hG6 HSr HIr HMr z0 z1 z2 z3 z4 htb
      go_upto_region 16 with fail
      generalize w6.alloc (.cells #[.int .i64 (gOf t).rows, .int .i64 (gOf t).cols, .slice ag (gOf t).cells.length cg] 35) = W6 at HG HI6 ⊢
      generalize w6.heap.size = gb at HG ⊢
      go_wp2_with fail
      go_loopw [8] (fun s W => ∃ k : Nat, s = .int .i64 k ∧ k ≤ (gOf t).cells.length ∧ Hid (Below W6.heap.size W6 W)) (fun s _ => (gOf t).cells.length - (intOf s).toNat)
      case atStart => exact ⟨0, rfl, Nat.zero_le _, Below.refl _ _⟩
      case round => as_aux_lemma =>
        obtain ⟨k, rfl, hk, HB⟩ := hrel
        have HGr := Hid.intro (HG.out.kept HB.out)
        have HIr := Hid.intro (HI6.out.kept HB.out)
        obtain ⟨y0, y1, y2⟩ := HGr.out.at
        have hgb := (Array.getElem?_eq_some_iff.1 HGr.out.2.2).1
        by_cases hkl : k < (gOf t).cells.length
        case neg =>
          obtain rfl : k = (gOf t).cells.length := by omega
          have hcc : ((j : Int) == (j : Int)) = true := by simp
          have HK := Hid.intro HGr.out.1.1
          go_wp2
          go_ret
          exact ⟨rfl, HK.out⟩
        obtain ⟨b, off, cap', e', hc1, hc2, hbl, hx, _⟩ := At.get HGr.out.2.1 hkl
        simp only [Value.slice.injEq, true_and] at e'
        obtain ⟨rfl, rfl⟩ := e'
        unfold maxLen at hc2
        have hxm := getD_mem' (d := dG) hkl
        have HCe := Hid.intro (HCel.out k hkl)
        have hgo := HGk.out _ hxm
        have hcv := cellV_has HCe.out (l := wishL t) (fun i hi => by have := HUp.out i hi; omega) hlW
        have hle := HHas.out k hkl
        rw [← hcv] at hle
        have hle2 : ¬ (cellV (wishL t) t.gap ((gOf t).cells.getD k dG) < ((wishOf (textOf t ((gOf t).cells.getD k dG)) : Nat) : Int)) := Int.not_lt.2 hle
        generalize (gOf t).cells.getD k dG = x at hx hgo HCe hle2
        clear hle hcv hxm
        have hsz := text_size HCe.out HGr.out.1.2.1.2
        have hne := bw_some wr
        have KW := Hid.intro (fun (p : BW wr) => bw_of (implWidCell (.slice al j cl) (wishL t) (by omega) t.gap x hgo p.u (HIr.out.kept p.h)))
        have KT := Hid.intro (fun (p : BW wr) => bw_of ((lawspwText ac ar cc cr t x HCe.out p.u (HGr.out.kept p.h).1.2.1.2).mono (fun _ _ ⟨h1, _, h2⟩ => And.intro h1 h2)))
        have KL := Hid.intro (fun (p : BW wr) => bw_same (implTxtWish (textOf t x) hsz p.u))
        generalize cellV (wishL t) t.gap x = q1 at KW hle2
        generalize textOf t x = s at KT KL hle2 hsz
        generalize wishOf s = q2 at KL hle2
        obtain ⟨x0, x1, x2, x3, x4⟩ := hx
        have htb := (Array.getElem?_eq_some_iff.1 HGr.out.1.2.2).1
        have m0 := bw_cell (a := ⟨tb, 0, none⟩) htb (cellB (p := 0) HGr.out.1.2.2)
        have m1 := bw_cell (a := ⟨tb, 1, none⟩) htb (cellB (p := 1) HGr.out.1.2.2)
        have m2 := bw_cell (a := ⟨tb, 2, none⟩) htb (cellB (p := 2) HGr.out.1.2.2)
        have m3 := bw_cell (a := ⟨tb, 3, none⟩) htb (cellB (p := 3) HGr.out.1.2.2)
        have m4 := bw_cell (a := ⟨tb, 4, none⟩) htb (cellB (p := 4) HGr.out.1.2.2)
        have m5 := bw_cell (a := ⟨gb, 2, none⟩) hgb y2
        have c0 := bw_cell hbl x0
        have c1 := bw_cell hbl x1
        have c2 := bw_cell hbl x2
        have c3 := bw_cell hbl x3
        have c4 := bw_cell hbl x4
        clear x0 x1 x2 x3 x4 HCe
        go_upto_region 19 with fail
        refine wp_region_quiet_below hmx (by kernel_rfl) ?_
        repeat (go_big_quiet_step (first | (go_at_call 13; refine KW.out _) | (go_at_call 15; refine KT.out _) | (go_at_call 14; refine KL.out _)))
        refine wpQuiet_nil ?_
        intro W7 hw'
        obtain ⟨⟨Wx, hW7⟩, hw''⟩ := hw'
        subst hw''
        have HB7 := Hid.intro (k_trans HB.out hW7)
        clear m0 m1 m2 m3 m4 m5 c0 c1 c2 c3 c4 KW KT KL hne hW7
        go_wp2
        go_roundw
        case rel => exact ⟨k + 1, by go_num, by omega, HB7⟩
        case measure => simp [intOf]; omega

theorem lawColWish (a : Option Addr) (len cap : Nat) (w : World) (h : IsCode w a len cap) :
    Calls Try.prog 3 #[.slice a len cap] w fun e w' => e = .returned (.bool true) ∧ Below w.heap.size w w' := by
  by_cases hl : len ≤ 1048576
  · exact lawColWish_walk a len cap hl w h
  · have hl' : (1048576 : Int) < (len : Int) := by omega
    clear h
    go_enter Try.func3, Try.ntmps3
    go_wp2
    go_ret
    exact ⟨rfl, Below.refl _ _⟩
end Go.Proofs.Ytkppaokkopfklae
