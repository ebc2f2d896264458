/-
  PROVED HERE: the model's ColLeast at a drawn table is the list leastL, in memory of its own; nothing that was in memory is turned. Also: a code that lies in memory stays where it is; a table abides five stores ahead of it: for the texts that draw a table. Also: DrawColLeast draws a table; nothing that was in memory is turned. Also: what the laws' own pwInts answers of two lists of numbers in memory that are the same; nothing that was in memory is turned. Also: the laws' own pwOk says true; nothing in memory is turned. Also: the laws' own pwText is the text of a cell at its place in a drawn table; nothing that was in memory is turned. Also: what the program's ColSaid answers at a table that lies in memory; nothing that was in memory is turned.
-/
import Derived.Test.YtmdghonefdmihadB38
import Derived.Deep.RegionWith
import Derived.Deep.QuietTactic
import Derived.BigQuiet
import Derived.Deep.DeepCutAuto
namespace Go.Proofs.Ytmdghonefdmihad
open Go.RowKit

theorem row_lit0 (w : World) (B : Nat) (hB : B ≤ w.heap.size) : RowI (w.alloc (.cells #[] 3)) B (w.alloc (.cells #[] 3)).heap.size (.slice (some ⟨w.heap.size, 0, none⟩) 0 0) [] :=
  .inr ⟨w.heap.size, 0, #[], rfl, hB, by simp, newestB _ _, Nat.le_refl _, Nat.zero_le _, rfl, fun i hi => absurd hi (Nat.not_lt_zero _)⟩
theorem leastL_no {t : T} (h : tblB t = false) : leastL t = [] := List.eq_nil_of_length_eq_zero (by rw [leastL_len, colN, gOf_no h]; rfl)
theorem l3Of_g (ac ar : Option Addr) (cc cr : Nat) (t : T) (hD : Drawn t) (hok : tblB t = true) (w : World) {z : Nat} (hr : RowsAt w z (.slice ar t.rows.length cr) t.rows) :
    Calls Try.prog 52 #[.agg #[.slice ac t.cols.length cc, .int .i64 t.head, .int .i64 t.foot, .slice ar t.rows.length cr, .int .i64 t.gap]] w fun e w' => ∃ ag cg, e = .returned (.agg #[.int .i64 (gOf t).rows, .int .i64 (gOf t).cols, .slice ag (gOf t).cells.length cg]) ∧ GsAt w' w.heap.size (.slice ag (gOf t).cells.length cg) (gOf t).cells ∧ Below w.heap.size w w' := by
  refine (l3Of_any ac ar cc cr t (low_of hok hD) w hr).mono ?_
  rintro e w' ⟨vg, rfl, hO, hb⟩
  have hgk := gOf_gok hD
  rw [gOf_ok hok] at hgk ⊢
  obtain ⟨ag, cg, rfl⟩ := own_slice hO
  exact ⟨ag, cg, rfl, hO.at hgk, hb⟩
set_option maxRecDepth 100000 in
set_option maxHeartbeats 1000000 in
theorem specColLeast (ac ar : Option Addr) (cc cr : Nat) (t : T) (hD : Drawn t) (w : World) {z : Nat} (hc : ColsAt w z (.slice ac t.cols.length cc) t.cols) (hr : RowsAt w z (.slice ar t.rows.length cr) t.rows) :
    Calls Try.prog 25 #[.agg #[.slice ac t.cols.length cc, .int .i64 t.head, .int .i64 t.foot, .slice ar t.rows.length cr, .int .i64 t.gap]] w fun e w' => ∃ v, e = .returned v ∧ RowI w' w.heap.size w'.heap.size v (leastL t) ∧ Below w.heap.size w w' := by
  have K0 := k_alloc (Below.refl w.heap.size w) (.cells #[.slice ac t.cols.length cc, .int .i64 t.head, .int .i64 t.foot, .slice ar t.rows.length cr, .int .i64 t.gap] 40)
  have X0 := newestB w (.cells #[.slice ac t.cols.length cc, .int .i64 t.head, .int .i64 t.foot, .slice ar t.rows.length cr, .int .i64 t.gap] 40)
  obtain ⟨W0, hW0⟩ : ∃ W0, w.alloc (.cells #[.slice ac t.cols.length cc, .int .i64 t.head, .int .i64 t.foot, .slice ar t.rows.length cr, .int .i64 t.gap] 40) = W0 := ⟨_, rfl⟩
  rw [hW0] at K0 X0
  have HP : Hid (Below w.heap.size w W0 ∧ TA W0 z ac ar cc cr t ∧ W0.heap[w.heap.size]? = some (.cells #[.slice ac t.cols.length cc, .int .i64 t.head, .int .i64 t.foot, .slice ar t.rows.length cr, .int .i64 t.gap] 40)) := ⟨K0, ⟨hc.kept K0, hr.kept K0⟩, X0⟩
  have KO := Hid.intro (specTblOk ac ar cc cr t W0 HP.out.2.1.1 HP.out.2.1.2)
  obtain ⟨b0, b1, b2, b3, b4⟩ := fiveO X0
  clear hc hr K0 X0
  cases htk : tblB t with
  | false =>
    rw [htk] at KO
    have HE := Hid.intro (leastL_no htk)
    clear htk
    go_enter Try.func25, Try.ntmps25
    go_upto_region 1 with fail
    clear hW0
    go_wp2_with fail
    refine KO.out.mono ?_
    rintro e w1 ⟨rfl, hb1⟩
    have HK1 := Hid.intro (k_trans HP.out.1 hb1)
    clear hb1 KO b0 b1 b2 b3 b4 HP
    go_wp2
    go_ret
    exact ⟨_, rfl, by rw [HE.out]; exact row_lit0 _ _ HK1.out.size, k_alloc HK1.out _⟩
  | true =>
    rw [htk] at KO
    have K3 := Hid.intro (fun W h => l3Of_g ac ar cc cr t hD htk W (z := z) h)
    have KL := Hid.intro (fun ag cg W zg h1 h2 h3 => specl5Least ac ar cc cr t hD ag cg W (z := z) (zg := zg) h1 h2 h3 htk)
    clear htk hD
    go_enter Try.func25, Try.ntmps25
    go_upto_region 1 with fail
    clear hW0
    go_wp2_with fail
    refine KO.out.mono ?_
    rintro e w1 ⟨rfl, hb1⟩
    have HP1 : Hid (Below w.heap.size w w1 ∧ TA w1 z ac ar cc cr t ∧ w1.heap[w.heap.size]? = some (.cells #[.slice ac t.cols.length cc, .int .i64 t.head, .int .i64 t.foot, .slice ar t.rows.length cr, .int .i64 t.gap] 40)) := ⟨k_trans HP.out.1 hb1, HP.out.2.1.kept hb1, (hb1.block _ (Array.getElem?_eq_some_iff.1 HP.out.2.2).1).trans HP.out.2.2⟩
    clear hb1 KO b0 b1 b2 b3 b4 HP
    go_upto_region 3 with fail
    obtain ⟨b0, b1, b2, b3, b4⟩ := fiveO HP1.out.2.2
    have ht1 := (Array.getElem?_eq_some_iff.1 HP1.out.2.2).1
    have HTd : Hid (TA w1.drew z ac ar cc cr t) := HP1.out.2.1.kept (k_drew (Below.refl _ _))
    have HBd := Hid.intro (k_drew HP1.out.1)
    have HXd : Hid (w1.drew.heap[w.heap.size]? = some (.cells #[.slice ac t.cols.length cc, .int .i64 t.head, .int .i64 t.foot, .slice ar t.rows.length cr, .int .i64 t.gap] 40)) := HP1.out.2.2
    go_region_with (first
      | (go_at_call 52; refine (K3.out _ HTd.out.2).mono ?_; rintro e w2 ⟨ag, cg, rfl, hG2, hb2⟩; have HG2 := Hid.intro hG2; have HT2 := Hid.intro (HTd.out.kept hb2); have HB2 := Hid.intro (k_trans HBd.out hb2); have HX2 := Hid.intro ((hb2.block _ (Array.getElem?_eq_some_iff.1 HXd.out).1).trans HXd.out); clear hG2 hb2; obtain ⟨p0, p1, p2, p3, p4⟩ := fiveO HX2.out; have ht2 := (Array.getElem?_eq_some_iff.1 HX2.out).1)
      | (go_at_call 51; refine (KL.out ag cg _ _ HT2.out.1 HT2.out.2 HG2.out).mono ?_; rintro e w3 ⟨v3, rfl, hr3, hb3⟩; have R3 := Hid.intro (hr3.base (B' := w.heap.size) HB2.out.size (Nat.le_refl _)); have HB3 := Hid.intro (k_trans HB2.out hb3); clear hr3 hb3))
    all_goals
      go_wp2
      go_ret
      exact ⟨_, rfl, R3.out, HB3.out⟩
/-- a cell's columns together -/
theorem cellV_has {t : T} {C : Nat} {x : GC} (hx : Cel t C x) {l : List Int} (hb : UpB l 50000) (hl : l.length = C) : cellV l t.gap x = hasV l t.gap x := by
  obtain ⟨rn, jn, cn, mn, e1, e2, e3, e4, h1, h2, h3, h4, h5⟩ := hx.ex
  obtain ⟨o1, o2⟩ := own_span (l := l) e3 e4 l.length (Nat.le_refl _)
  have hg := hx.gap
  have hm : min l.length (cn + mn) = cn + mn := by omega
  have hm2 : min l.length cn = cn := by omega
  have hm3 : min mn (l.length - cn) = mn := by omega
  rw [hm, hm2] at o2
  rw [hm3] at o1
  have hss : (subL l cn mn).sum = sumTo l (cn + mn) - sumTo l cn := by
    unfold subL sumTo
    rw [List.take_add, List.sum_append]
    omega
  have hs := sum_upB (fun y (hy : y ∈ subL l cn mn) => hb.mem (subL_mem hy))
  rw [subL_len (by omega)] at hs
  have hgm := gap_facts hg (m := mn - 1) (by omega)
  rw [show ((mn - 1 : Nat) : Int) = (mn : Int) - 1 by omega] at hgm
  unfold cellV hasV
  rw [acrV_cons (by omega), o1, o2, e3, e4, Int.toNat_natCast, Int.toNat_natCast, hss]
  rw [hss] at hs
  exact W_small (by omega)
end Go.Proofs.Ytmdghonefdmihad
namespace Go.Proofs.Ytmdghonefdmihad
open Go.RowKit

theorem IsCode.kept {w w' : World} {a : Option Addr} {len cap : Nat} (h : IsCode w a len cap) (hb : Below w.heap.size w w') : IsCode w' a len cap := by
  obtain ⟨h1, h2, hc⟩ := h
  refine ⟨h1, h2, fun i hi => ?_⟩
  obtain ⟨b, off, z, e, l, c, z0, z1⟩ := hc i hi
  exact ⟨b, off, z, e, Nat.lt_of_lt_of_le l hb.size, (hb.cell (p := ⟨b, off + i, none⟩) l).trans c, z0, z1⟩
/-- a table that lies in memory abides five stores into a block that was there ahead of it -/
theorem Since.st5 {w : World} {z g : Nat} (hg : g < z) (y0 y1 y2 y3 y4 : Value) : Since z w (st5 w g y0 y1 y2 y3 y4) := ⟨(st5_bk w g y0 y1 y2 y3 y4).size, fun k hk hl => (st5_bk w g y0 y1 y2 y3 y4).block k hl (by omega)⟩

end Go.Proofs.Ytmdghonefdmihad
namespace Go.Proofs.Ytmdghonefdmihad
open Go.RowKit

set_option maxRecDepth 100000 in
set_option maxHeartbeats 1000000 in
theorem drawColLeast_any (a : Option Addr) (len cap : Nat) (w : World) (h : IsCode w a len cap) :
    Calls Try.prog 23 #[.slice a len cap] w fun e w' => ∃ (ac ar : Option Addr) (cc cr : Nat) (t : T), e = .returned (.agg #[.slice ac t.cols.length cc, .int .i64 t.head, .int .i64 t.foot, .slice ar t.rows.length cr, .int .i64 t.gap]) ∧ Drawn t ∧
      ColsAt w' w.heap.size (.slice ac t.cols.length cc) t.cols ∧ RowsAt w' w.heap.size (.slice ar t.rows.length cr) t.rows ∧ Below w.heap.size w w' := by
  have K0 := k_alloc (Below.refl w.heap.size w) (.cells #[.slice none 0 0, .int .i64 0, .int .i64 0, .slice none 0 0, .int .i64 0] 40)
  have HC := Hid.intro (h.kept K0)
  have X0 := newestB w (.cells #[.slice none 0 0, .int .i64 0, .int .i64 0, .slice none 0 0, .int .i64 0] 40)
  clear h
  have hsz : (w.alloc (.cells #[.slice none 0 0, .int .i64 0, .int .i64 0, .slice none 0 0, .int .i64 0] 40)).heap.size = w.heap.size + 1 := by simp
  go_enter Try.func23, Try.ntmps23
  go_wp2_with fail
  refine (open_any _ _ _ _ HC.out).mono ?_
  rintro e w1 ⟨rfl, hR1, hb1⟩
  rw [hsz] at hR1 hb1
  have X1 := (hb1.block w.heap.size (by omega)).trans X0
  have K1 := k_trans K0 (by rw [hsz]; exact hb1)
  have hz1 := hR1.lt
  go_wp2_with fail
  refine (l20AnyTable_any (w.heap.size + 1) 0 16 (by omega) _ hR1 (by omega)).mono ?_
  rintro e w2 ⟨ac, ar, cc, cr, t, rfl, hD, hC2, hW2, hR2, hb2⟩
  have X2 := (hb2.block w.heap.size (by omega) (by omega)).trans X1
  have K2 := K1.trans (hb2.below (by omega) (by omega))
  have hz2 : w.heap.size + 1 < w2.heap.size := hR2.lt
  have hw1 : w.heap.size + 2 ≤ w1.heap.size := by omega
  have HC3 := Hid.intro ((hC2.base hw1).since (Since.st5 (z := w.heap.size + 2) (g := w.heap.size) (by omega) (.slice ac t.cols.length cc) (.int .i64 t.head) (.int .i64 t.foot) (.slice ar t.rows.length cr) (.int .i64 t.gap)))
  have HW3 := Hid.intro ((hW2.base hw1).since (Since.st5 (z := w.heap.size + 2) (g := w.heap.size) (by omega) (.slice ac t.cols.length cc) (.int .i64 t.head) (.int .i64 t.foot) (.slice ar t.rows.length cr) (.int .i64 t.gap)))
  have K3 := Hid.intro (K2.trans ((st5_bk w2 w.heap.size (.slice ac t.cols.length cc) (.int .i64 t.head) (.int .i64 t.foot) (.slice ar t.rows.length cr) (.int .i64 t.gap)).below (by omega) (Nat.le_refl _)))
  have HD := Hid.intro hD
  obtain ⟨⟨x0, x1, x2, x3, x4⟩, y0, y1, y2, y3, y4⟩ := fiveZ X2
  clear hC2 hW2 hR2 hb2 X2 X1 X0 K0 K1 K2 hD HC hR1 hb1
  go_wp2
  exact bodyPost_ret (v := .agg #[.slice ac t.cols.length cc, .int .i64 t.head, .int .i64 t.foot, .slice ar t.rows.length cr, .int .i64 t.gap]) (by simp [results, Try.results23, go_sem, x0, x1, x2, x3, x4]) rfl ⟨ac, ar, cc, cr, t, rfl, HD.out, HC3.out.base (by omega), HW3.out.base (by omega), K3.out⟩
end Go.Proofs.Ytmdghonefdmihad
namespace Go.Proofs.Ytmdghonefdmihad
open Go.RowKit

set_option maxRecDepth 100000 in
set_option maxHeartbeats 1000000 in
theorem pwInts_any (v1 v2 : Value) (l : List Int) (w : World) (h1 : IntsAt w v1 l) (h2 : IntsAt w v2 l) :
    Calls Try.prog 11 #[v1, v2] w fun e w' => e = .returned (.bool true) ∧ ∃ n, w' = w.drewN n := by
  obtain ⟨a1, cap1, rfl, hlen⟩ := h1.form
  obtain ⟨a2, cap2, rfl, _⟩ := h2.form
  have hne : ((l.length : Int) != (l.length : Int)) = false := by simp
  have H1 := Hid.intro h1
  have H2 := Hid.intro h2
  clear h1 h2
  go_enter Try.func11, Try.ntmps11
  go_wp2_with fail
  go_loopw [5] (fun i W => ∃ k n : Nat, k ≤ l.length ∧ i = .int .i64 k ∧ W = w.drewN n) (fun i _ => l.length - (intOf i).toNat)
  case atStart => exact ⟨0, 0, Nat.zero_le _, rfl, rfl⟩
  case round =>
    obtain ⟨k, nd, hk, rfl, rfl⟩ := hrel
    by_cases hlt : k < l.length
    · obtain ⟨b1, off1, cap1', e1, hc11, hc12, hbl1, x0⟩ := H1.out.get hlt
      simp only [Value.slice.injEq, true_and] at e1
      obtain ⟨rfl, rfl⟩ := e1
      obtain ⟨b2, off2, cap2', e2, hc21, hc22, hbl2, y0⟩ := H2.out.get hlt
      simp only [Value.slice.injEq, true_and] at e2
      obtain ⟨rfl, rfl⟩ := e2
      unfold maxLen at hc12 hc22
      generalize l.getD k 0 = x at x0 y0
      have hxx : (x != x) = false := by simp
      go_wp2_with fail
      go_quiet (fail)
      go_wp2
      go_roundw
      case rel => exact ⟨k + 1, nd + nq, by omega, by go_num, rfl⟩
      case measure => simp [intOf]; omega
    · go_wp2
      go_ret
      exact ⟨rfl, nd, rfl⟩
end Go.Proofs.Ytmdghonefdmihad
namespace Go.Proofs.Ytmdghonefdmihad
open Go.RowKit

theorem abcOk : txtOkB ⟨#[97, 98, 32, 99]⟩ = true := by decide +kernel
theorem pwOk_any (w : World) : Calls Try.prog 13 #[] w fun e w' => e = .returned (.bool true) ∧ w' = w := by
  go_enter Try.func13, Try.ntmps13
  go_wp2_with fail
  refine (implTxtOk _ _ (by unfold maxLen; decide)).mono ?_
  rw [abcOk]
  rintro e w1 ⟨rfl, rfl⟩
  go_wp2
  go_ret
  exact ⟨rfl, rfl⟩
end Go.Proofs.Ytmdghonefdmihad
namespace Go.Proofs.Ytmdghonefdmihad
open Go.RowKit

set_option maxRecDepth 100000 in
set_option maxHeartbeats 2000000 in
theorem lawspwText (ac ar : Option Addr) (cc cr : Nat) (t : T) (x : GC) {C : Nat} (hx : Cel t C x) (w : World) {z : Nat} (hr : RowsAt w z (.slice ar t.rows.length cr) t.rows) :
    Calls Try.prog 30 #[.agg #[.slice ac t.cols.length cc, .int .i64 t.head, .int .i64 t.foot, .slice ar t.rows.length cr, .int .i64 t.gap], .agg #[.int .i64 x.row, .int .i64 x.col, .int .i64 x.rows, .int .i64 x.cols, .int .i64 x.ins]] w fun e w' => e = .returned (.string (textOf t x)) ∧ (textOf t x).size ≤ maxLen ∧ Below w.heap.size w w' := by
  obtain ⟨rn, jn, cn, mn, e1, e2, e3, e4, h1, h2, h3, h4, h5⟩ := hx.ex
  have HTx : Hid (textOf t x = ((t.rows.getD rn dR).cells.getD jn dC).s) := by rw [Hid, textOf, e1, e2, Int.toNat_natCast, Int.toNat_natCast]
  have K1 := k_alloc (Below.refl w.heap.size w) (.cells #[.slice ac t.cols.length cc, .int .i64 t.head, .int .i64 t.foot, .slice ar t.rows.length cr, .int .i64 t.gap] 40)
  have X1 := newestB w (.cells #[.slice ac t.cols.length cc, .int .i64 t.head, .int .i64 t.foot, .slice ar t.rows.length cr, .int .i64 t.gap] 40)
  have hs1 : (w.alloc (.cells #[.slice ac t.cols.length cc, .int .i64 t.head, .int .i64 t.foot, .slice ar t.rows.length cr, .int .i64 t.gap] 40)).heap.size = w.heap.size + 1 := by simp
  rw [e1, e2]
  clear e1 e2 e3 e4
  go_enter Try.func30, Try.ntmps30
  go_upto_region 1 with fail
  have K2 := k_alloc K1 (.cells #[.int .i64 (rn : Int), .int .i64 x.col, .int .i64 x.rows, .int .i64 x.cols, .int .i64 (jn : Int)] 50)
  have X2 := newestB (w.alloc (.cells #[.slice ac t.cols.length cc, .int .i64 t.head, .int .i64 t.foot, .slice ar t.rows.length cr, .int .i64 t.gap] 40)) (.cells #[.int .i64 (rn : Int), .int .i64 x.col, .int .i64 x.rows, .int .i64 x.cols, .int .i64 (jn : Int)] 50)
  have X1' := (Below.heap_alloc (w.alloc (.cells #[.slice ac t.cols.length cc, .int .i64 t.head, .int .i64 t.foot, .slice ar t.rows.length cr, .int .i64 t.gap] 40)) (.cells #[.int .i64 (rn : Int), .int .i64 x.col, .int .i64 x.rows, .int .i64 x.cols, .int .i64 (jn : Int)] 50) w.heap.size (by omega)).trans X1
  rw [hs1] at X2
  generalize (w.alloc (.cells #[.slice ac t.cols.length cc, .int .i64 t.head, .int .i64 t.foot, .slice ar t.rows.length cr, .int .i64 t.gap] 40)).alloc (.cells #[.int .i64 (rn : Int), .int .i64 x.col, .int .i64 x.rows, .int .i64 x.cols, .int .i64 (jn : Int)] 50) = W at K2 X2 X1' ⊢
  obtain ⟨rb, roff, rcap, re, rc1, rc2, rbl, u, hu0, _, hu⟩ := At.get (hr.kept K2) h1
  simp only [Value.slice.injEq, true_and] at re
  obtain ⟨rfl, rfl⟩ := re
  obtain ⟨qb, qoff, qcap, qe, qc1, qc2, qbl, hv, hsl⟩ := At.get hu h2
  subst qe
  have v0 := hv.1
  have q3 := cellB (p := 3) X1'
  have q0 := cellB (p := 0) X2
  have q4 := cellB (p := 4) X2
  have HSZ : Hid ((textOf t x).size ≤ maxLen) := by rw [Hid, HTx.out]; exact hsl
  have HK := Hid.intro K2
  unfold maxLen at rc2 qc2
  generalize (t.rows.getD rn dR).cells.getD jn dC = y at v0 hsl HTx
  generalize (t.rows.getD rn dR).cells.length = rl at hu0 h2 qc1
  clear hu hv hr h3 h4 h5 hx K1 X1 hs1 K2 X2 X1'
  go_quiet (fail)
  go_wp2
  go_ret
  exact ⟨by rw [HTx.out]; rfl, HSZ.out, k_drewN HK.out nq⟩
end Go.Proofs.Ytmdghonefdmihad
namespace Go.Proofs.Ytmdghonefdmihad
open Go.RowKit

set_option maxRecDepth 100000 in
set_option maxHeartbeats 1000000 in
theorem implColSaid (ac ar : Option Addr) (cc cr : Nat) (t : T) (q : Int) (w : World) {z : Nat} (hc : ColsAt w z (.slice ac t.cols.length cc) t.cols) (hr : RowsAt w z (.slice ar t.rows.length cr) t.rows) :
    Calls Try.prog 31 #[.agg #[.slice ac t.cols.length cc, .int .i64 t.head, .int .i64 t.foot, .slice ar t.rows.length cr, .int .i64 t.gap], .int .i64 q] w fun e w' => e = .returned (.agg #[.int .i64 (sdT t q).1, .int .i64 (sdT t q).2]) ∧ Below w.heap.size w w' := by
  obtain ⟨W0, hW0⟩ : ∃ W0, (w.alloc (.cells #[.slice ac t.cols.length cc, .int .i64 t.head, .int .i64 t.foot, .slice ar t.rows.length cr, .int .i64 t.gap] 40)).alloc (.cells #[.int .i64 0, .int .i64 0] 54) = W0 := ⟨_, rfl⟩
  have K0 : Below w.heap.size w W0 := by rw [← hW0]; exact k_alloc (k_alloc (Below.refl _ _) _) _
  have T0 : W0.heap[w.heap.size]? = some (.cells #[.slice ac t.cols.length cc, .int .i64 t.head, .int .i64 t.foot, .slice ar t.rows.length cr, .int .i64 t.gap] 40) := by rw [← hW0]; exact (Below.heap_alloc _ _ _ (by simp)).trans (newestB _ _)
  have X0 : W0.heap[w.heap.size + 1]? = some (.cells #[.int .i64 0, .int .i64 0] 54) := by
    have := newestB (w.alloc (.cells #[.slice ac t.cols.length cc, .int .i64 t.head, .int .i64 t.foot, .slice ar t.rows.length cr, .int .i64 t.gap] 40)) (.cells #[.int .i64 0, .int .i64 0] 54)
    rw [hW0] at this
    simpa using this
  have KO := Hid.intro (implTblOk ac ar cc cr t W0 (hc.kept K0) (hr.kept K0))
  have HC := Hid.intro (hc.kept K0)
  have t0 : W0.cell? ⟨w.heap.size, 0, none⟩ = some (.slice ac t.cols.length cc) := cellB T0
  have t1 : W0.cell? ⟨w.heap.size, 1, none⟩ = some (.int .i64 t.head) := cellB T0
  have t2 : W0.cell? ⟨w.heap.size, 2, none⟩ = some (.int .i64 t.foot) := cellB T0
  have t3 : W0.cell? ⟨w.heap.size, 3, none⟩ = some (.slice ar t.rows.length cr) := cellB T0
  have t4 : W0.cell? ⟨w.heap.size, 4, none⟩ = some (.int .i64 t.gap) := cellB T0
  clear hc hr
  cases htk : tblB t with
  | false =>
    rw [htk] at KO
    have hv : sdT t q = (0, 0) := by unfold sdT; rw [if_neg (by rw [htk]; simp)]
    rw [hv]
    clear htk hv
    go_enter Try.func31, Try.ntmps31
    go_wp2_with fail
    refine KO.out.mono ?_
    rintro e w1 ⟨rfl, hb1⟩
    have X1 := (hb1.block (w.heap.size + 1) (Array.getElem?_eq_some_iff.1 X0).1).trans X0
    have x0 : w1.cell? ⟨w.heap.size + 1, 0, none⟩ = some (.int .i64 0) := cellB X1
    have x1 : w1.cell? ⟨w.heap.size + 1, 1, none⟩ = some (.int .i64 0) := cellB X1
    have y0 : w1.frozen? ⟨w.heap.size + 1, 0, none⟩ = false := freeB X1
    have y1 : w1.frozen? ⟨w.heap.size + 1, 1, none⟩ = false := freeB X1
    have HB := Hid.intro (k_set (k_set (k_trans K0 hb1) (p := ⟨w.heap.size + 1, 0, none⟩) (by show _ ≤ w.heap.size + 1; omega) (.int .i64 0)) (p := ⟨w.heap.size + 1, 1, none⟩) (by show _ ≤ w.heap.size + 1; omega) (.int .i64 0))
    clear hb1 X1 KO HC K0 T0 X0 hW0 t0 t1 t2 t3 t4
    go_wp2
    exact bodyPost_ret (v := .agg #[.int .i64 0, .int .i64 0]) (by simp [results, Try.results31, go_sem, x0, x1]) rfl ⟨rfl, HB.out⟩
  | true =>
    rw [htk] at KO
    have hv : sdT t q = sd t.cols q := by unfold sdT; rw [if_pos htk]
    rw [hv]
    clear htk hv
    go_enter Try.func31, Try.ntmps31
    go_wp2_with fail
    refine KO.out.mono ?_
    rintro e w1 ⟨rfl, hb1⟩
    have X1 := (hb1.block (w.heap.size + 1) (Array.getElem?_eq_some_iff.1 X0).1).trans X0
    have T1 := (hb1.block w.heap.size (Array.getElem?_eq_some_iff.1 T0).1).trans T0
    have s0 : w1.cell? ⟨w.heap.size, 0, none⟩ = some (.slice ac t.cols.length cc) := cellB T1
    have K1 := Hid.intro (k_trans K0 hb1)
    have C1 := Hid.intro (HC.out.kept hb1)
    have HX1 := Hid.intro X1
    clear hb1 KO HC K0 T0 X0 X1 T1 hW0 t0 t1 t2 t3 t4
    go_wp2_with fail
    refine (implsaidOf _ _ q w1 C1.out).mono ?_
    rintro e w2 ⟨rfl, hb2⟩
    have X2 := (hb2.block (w.heap.size + 1) (Array.getElem?_eq_some_iff.1 HX1.out).1).trans HX1.out
    obtain ⟨p, hp⟩ : ∃ p, sd t.cols q = p := ⟨_, rfl⟩
    have HP := Hid.intro hp
    rw [hp]
    clear hp
    have x0 : w2.cell? ⟨w.heap.size + 1, 0, none⟩ = some (.int .i64 0) := cellB X2
    have x1 : w2.cell? ⟨w.heap.size + 1, 1, none⟩ = some (.int .i64 0) := cellB X2
    have y0 : w2.frozen? ⟨w.heap.size + 1, 0, none⟩ = false := freeB X2
    have y1 : w2.frozen? ⟨w.heap.size + 1, 1, none⟩ = false := freeB X2
    have HB := Hid.intro (k_set (k_set (k_trans K1.out hb2) (p := ⟨w.heap.size + 1, 0, none⟩) (by show _ ≤ w.heap.size + 1; omega) (.int .i64 p.1)) (p := ⟨w.heap.size + 1, 1, none⟩) (by show _ ≤ w.heap.size + 1; omega) (.int .i64 p.2))
    clear hb2 X2 K1 C1 HX1 s0
    go_wp2
    exact bodyPost_ret (v := .agg #[.int .i64 p.1, .int .i64 p.2]) (by simp [results, Try.results31, go_sem, x0, x1]) rfl ⟨by rw [HP.out], HB.out⟩
end Go.Proofs.Ytmdghonefdmihad
