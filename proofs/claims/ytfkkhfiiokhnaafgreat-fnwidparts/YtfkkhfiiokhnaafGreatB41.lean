/-
  PROVED HERE: the program's cellOf is a cell at its place in a drawn table; nothing that was in memory is turned. Also: the program's textOf is the text of a cell at its place in a drawn table; nothing that was in memory is turned. Also: the program's wideEnough at a drawn table: the list 'needTo', in memory of its own; nothing that was in memory is turned.
-/
import Derived.Test.YtfkkhfiiokhnaafGreatB37
import Derived.Test.YtfkkhfiiokhnaafGreatB27
import Derived.Test.YtfkkhfiiokhnaafGreatB38
import Derived.Test.YtfkkhfiiokhnaafGreatB33
import Derived.Test.YtfkkhfiiokhnaafGreatB22
import Derived.Deep.DeepCutAuto
import Derived.Deep.RegionWith
import Derived.Deep.QuietTactic
import Derived.BigQuiet
namespace Go.Proofs.YtfkkhfiiokhnaafGreat
open Go.RowKit Go.BigFrame

/-- a cell of a grid, as it stands in its table -/
def cellAt (t : T) (x : GC) : C := (t.rows.getD x.row.toNat dR).cells.getD x.ins.toNat dC
set_option maxRecDepth 100000 in
set_option maxHeartbeats 2000000 in
theorem implcellOf (ac ar : Option Addr) (cc cr : Nat) (t : T) (x : GC) {C : Nat} (hx : Cel t C x) (w : World) {z : Nat} (hr : RowsAt w z (.slice ar t.rows.length cr) t.rows) :
    Calls Tryz.prog 96 #[.agg #[.slice ac t.cols.length cc, .int .i64 t.head, .int .i64 t.foot, .slice ar t.rows.length cr, .int .i64 t.gap], .agg #[.int .i64 x.row, .int .i64 x.col, .int .i64 x.rows, .int .i64 x.cols, .int .i64 x.ins]] w fun e w' => e = .returned (.agg #[.string (cellAt t x).s, .int .i64 (cellAt t x).c, .int .i64 (cellAt t x).r, .int .i64 (cellAt t x).a1, .int .i64 (cellAt t x).b1, .int .i64 (cellAt t x).a2, .int .i64 (cellAt t x).b2, .int .i64 (cellAt t x).a3, .int .i64 (cellAt t x).b3, .int .i64 (cellAt t x).a4, .int .i64 (cellAt t x).b4]) ∧ (cellAt t x).s.size ≤ maxLen ∧ Below w.heap.size w w' := by
  obtain ⟨rn, jn, cn, mn, e1, e2, e3, e4, h1, h2, h3, h4, h5⟩ := hx.ex
  have HTx : Hid (cellAt t x = (t.rows.getD rn dR).cells.getD jn dC) := by rw [Hid, cellAt, e1, e2, Int.toNat_natCast, Int.toNat_natCast]
  have hmx : Tryz.prog.follows .mixedOrders = true := by kernel_rfl
  have K1 := k_alloc (Below.refl w.heap.size w) (.cells #[.slice ac t.cols.length cc, .int .i64 t.head, .int .i64 t.foot, .slice ar t.rows.length cr, .int .i64 t.gap] 26)
  have X1 := newestB w (.cells #[.slice ac t.cols.length cc, .int .i64 t.head, .int .i64 t.foot, .slice ar t.rows.length cr, .int .i64 t.gap] 26)
  have hs1 : (w.alloc (.cells #[.slice ac t.cols.length cc, .int .i64 t.head, .int .i64 t.foot, .slice ar t.rows.length cr, .int .i64 t.gap] 26)).heap.size = w.heap.size + 1 := by simp
  rw [e1, e2]
  clear e1 e2 e3 e4
  go_enter Tryz.func96, Tryz.ntmps96
  go_upto_region 1 with fail
  have K2 := k_alloc K1 (.cells #[.int .i64 (rn : Int), .int .i64 x.col, .int .i64 x.rows, .int .i64 x.cols, .int .i64 (jn : Int)] 50)
  have X2 := newestB (w.alloc (.cells #[.slice ac t.cols.length cc, .int .i64 t.head, .int .i64 t.foot, .slice ar t.rows.length cr, .int .i64 t.gap] 26)) (.cells #[.int .i64 (rn : Int), .int .i64 x.col, .int .i64 x.rows, .int .i64 x.cols, .int .i64 (jn : Int)] 50)
  have X1' := (Below.heap_alloc (w.alloc (.cells #[.slice ac t.cols.length cc, .int .i64 t.head, .int .i64 t.foot, .slice ar t.rows.length cr, .int .i64 t.gap] 26)) (.cells #[.int .i64 (rn : Int), .int .i64 x.col, .int .i64 x.rows, .int .i64 x.cols, .int .i64 (jn : Int)] 50) w.heap.size (by omega)).trans X1
  rw [hs1] at X2
  have hs2 : ((w.alloc (.cells #[.slice ac t.cols.length cc, .int .i64 t.head, .int .i64 t.foot, .slice ar t.rows.length cr, .int .i64 t.gap] 26)).alloc (.cells #[.int .i64 (rn : Int), .int .i64 x.col, .int .i64 x.rows, .int .i64 x.cols, .int .i64 (jn : Int)] 50)).heap.size = w.heap.size + 2 := by simp
  generalize (w.alloc (.cells #[.slice ac t.cols.length cc, .int .i64 t.head, .int .i64 t.foot, .slice ar t.rows.length cr, .int .i64 t.gap] 26)).alloc (.cells #[.int .i64 (rn : Int), .int .i64 x.col, .int .i64 x.rows, .int .i64 x.cols, .int .i64 (jn : Int)] 50) = W2 at K2 X2 X1' hs2 ⊢
  have K3 := k_alloc K2 (.cells #[.string ⟨#[]⟩, .int .i64 0, .int .i64 0, .int .i64 0, .int .i64 0, .int .i64 0, .int .i64 0, .int .i64 0, .int .i64 0, .int .i64 0, .int .i64 0] 74)
  have X3 := newestB W2 (.cells #[.string ⟨#[]⟩, .int .i64 0, .int .i64 0, .int .i64 0, .int .i64 0, .int .i64 0, .int .i64 0, .int .i64 0, .int .i64 0, .int .i64 0, .int .i64 0] 74)
  have X1'' := (Below.heap_alloc W2 (.cells #[.string ⟨#[]⟩, .int .i64 0, .int .i64 0, .int .i64 0, .int .i64 0, .int .i64 0, .int .i64 0, .int .i64 0, .int .i64 0, .int .i64 0, .int .i64 0] 74) w.heap.size (by omega)).trans X1'
  have X2' := (Below.heap_alloc W2 (.cells #[.string ⟨#[]⟩, .int .i64 0, .int .i64 0, .int .i64 0, .int .i64 0, .int .i64 0, .int .i64 0, .int .i64 0, .int .i64 0, .int .i64 0, .int .i64 0] 74) (w.heap.size + 1) (by omega)).trans X2
  rw [show W2.heap.size = w.heap.size + 1 + 1 by omega] at X3
  generalize W2.alloc (.cells #[.string ⟨#[]⟩, .int .i64 0, .int .i64 0, .int .i64 0, .int .i64 0, .int .i64 0, .int .i64 0, .int .i64 0, .int .i64 0, .int .i64 0, .int .i64 0] 74) = W at K3 X3 X1'' X2' ⊢
  clear K1 X1 hs1 K2 X2 X1' hs2
  obtain ⟨rb, roff, rcap, re, rc1, rc2, rbl, u, hu0, _, hu⟩ := At.get (hr.kept K3) h1
  simp only [Value.slice.injEq, true_and] at re
  obtain ⟨rfl, rfl⟩ := re
  obtain ⟨qb, qoff, qcap, qe, qc1, qc2, qbl, hv, hsl⟩ := At.get hu h2
  subst qe
  obtain ⟨v0, v1, v2, v3, v4, v5, v6, v7, v8, v9, v10⟩ := hv
  have l1 : w.heap.size < W.heap.size := (Array.getElem?_eq_some_iff.1 X1'').1
  have l2 : w.heap.size + 1 < W.heap.size := (Array.getElem?_eq_some_iff.1 X2').1
  have hne := bw_some W
  have m0 := bw_cell (a := ⟨w.heap.size, 3, none⟩) l1 (cellB (p := 3) X1'')
  have m1 := bw_cell (a := ⟨w.heap.size + 1, 0, none⟩) l2 (cellB (p := 0) X2')
  have m2 := bw_cell (a := ⟨w.heap.size + 1, 4, none⟩) l2 (cellB (p := 4) X2')
  have m3 := bw_cell rbl hu0
  have n0 := bw_cell qbl v0
  have n1 := bw_cell qbl v1
  have n2 := bw_cell qbl v2
  have n3 := bw_cell qbl v3
  have n4 := bw_cell qbl v4
  have n5 := bw_cell qbl v5
  have n6 := bw_cell qbl v6
  have n7 := bw_cell qbl v7
  have n8 := bw_cell qbl v8
  have n9 := bw_cell qbl v9
  have n10 := bw_cell qbl v10
  have HSZ : Hid ((cellAt t x).s.size ≤ maxLen) := by rw [Hid, HTx.out]; exact hsl
  have HK := Hid.intro K3
  have HX3 := Hid.intro X3
  unfold maxLen at rc2 qc2
  generalize (t.rows.getD rn dR).cells.getD jn dC = y at *
  generalize (t.rows.getD rn dR).cells.length = rl at h2 m3 qc1
  clear hu hu0 hr h3 h4 h5 hx K3 X3 X1'' X2' v0 v1 v2 v3 v4 v5 v6 v7 v8 v9 v10 hsl
  refine wp_region_last 11 hmx (by rfl) (by rfl) (by kernel_rfl) (by kernel_rfl) ?_
  simp only [List.take_succ_cons, List.take_zero]
  repeat (go_big_quiet_step (fail))
  refine wpQuiet_nil ?_
  intro W5 hw'
  obtain ⟨⟨Wx, hW5⟩, hw''⟩ := hw'
  subst hw''
  have l3 : w.heap.size + 1 + 1 < W.heap.size := (Array.getElem?_eq_some_iff.1 HX3.out).1
  have X5 := (hW5.block _ l3).trans HX3.out
  obtain ⟨⟨c0, c1, c2, c3, c4, c5, c6, c7, c8, c9, c10⟩, f0, f1, f2, f3, f4, f5, f6, f7, f8, f9, f10⟩ := cells11 X5
  have HK5 := Hid.intro (k_trans HK.out hW5)
  clear m0 m1 m2 m3 n0 n1 n2 n3 n4 n5 n6 n7 n8 n9 n10 hne hW5 X5
  rw [if_pos (by rfl)]
  go_simp
  go_wp2
  exact bodyPost_ret (v := .agg #[.string y.s, .int .i64 y.c, .int .i64 y.r, .int .i64 y.a1, .int .i64 y.b1, .int .i64 y.a2, .int .i64 y.b2, .int .i64 y.a3, .int .i64 y.b3, .int .i64 y.a4, .int .i64 y.b4]) (by simp [results, Tryz.results96, go_sem, c0, c1, c2, c3, c4, c5, c6, c7, c8, c9, c10]) rfl ⟨by rw [HTx.out], HSZ.out, HK5.out.trans ((st11_bk W5 (w.heap.size + 1 + 1) (.string y.s) (.int .i64 y.c) (.int .i64 y.r) (.int .i64 y.a1) (.int .i64 y.b1) (.int .i64 y.a2) (.int .i64 y.b2) (.int .i64 y.a3) (.int .i64 y.b3) (.int .i64 y.a4) (.int .i64 y.b4)).below HK5.out.size (by omega))⟩
end Go.Proofs.YtfkkhfiiokhnaafGreat
namespace Go.Proofs.YtfkkhfiiokhnaafGreat
open Go.RowKit

theorem text_size {t : T} {x : GC} {C : Nat} (hx : Cel t C x) {w : World} {z : Nat} {v : Value} (hr : RowsAt w z v t.rows) : (textOf t x).size ≤ maxLen := by
  obtain ⟨rn, jn, cn, mn, e1, e2, e3, e4, h1, h2, h3, h4, h5⟩ := hx.ex
  rw [textOf, e1, e2, Int.toNat_natCast, Int.toNat_natCast]
  obtain ⟨rb, roff, rcap, re, rc1, rc2, rbl, u, hu0, _, hu⟩ := At.get hr h1
  obtain ⟨qb, qoff, qcap, qe, qc1, qc2, qbl, hv, hsl⟩ := At.get hu h2
  exact hsl
theorem field_first (s : ByteArray) (x1 x2 x3 x4 x5 x6 x7 x8 x9 x10 : Value) (W : World) : (Instr.field 74 (.agg #[.string s, x1, x2, x3, x4, x5, x6, x7, x8, x9, x10]) 0).run Tryz.prog W = .ok (.string s) W := by kernel_rfl
set_option maxRecDepth 100000 in
set_option maxHeartbeats 2000000 in
theorem impltextOf (ac ar : Option Addr) (cc cr : Nat) (t : T) (x : GC) {C : Nat} (hx : Cel t C x) (w : World) {z : Nat} (hr : RowsAt w z (.slice ar t.rows.length cr) t.rows) :
    Calls Tryz.prog 56 #[.agg #[.slice ac t.cols.length cc, .int .i64 t.head, .int .i64 t.foot, .slice ar t.rows.length cr, .int .i64 t.gap], .agg #[.int .i64 x.row, .int .i64 x.col, .int .i64 x.rows, .int .i64 x.cols, .int .i64 x.ins]] w fun e w' => e = .returned (.string (textOf t x)) ∧ (textOf t x).size ≤ maxLen ∧ Below w.heap.size w w' := by
  have HC := Hid.intro (implcellOf ac ar cc cr t x hx)
  have hfl := field_first
  have K2 := k_alloc (k_alloc (Below.refl w.heap.size w) (.cells #[.slice ac t.cols.length cc, .int .i64 t.head, .int .i64 t.foot, .slice ar t.rows.length cr, .int .i64 t.gap] 26)) (.cells #[.int .i64 x.row, .int .i64 x.col, .int .i64 x.rows, .int .i64 x.cols, .int .i64 x.ins] 50)
  have HR := Hid.intro (hr.kept K2)
  have HK := Hid.intro K2
  clear hr hx K2
  go_enter Tryz.func56, Tryz.ntmps56
  go_wp2_with fail
  refine (HC.out _ HR.out).mono ?_
  rintro e w1 ⟨rfl, hsz, hb1⟩
  have HK1 := Hid.intro (k_trans HK.out hb1)
  clear hb1 HK HR HC
  go_wp2
  go_ret
  exact ⟨rfl, hsz, HK1.out⟩
end Go.Proofs.YtfkkhfiiokhnaafGreat
namespace Go.Proofs.YtfkkhfiiokhnaafGreat
open Go.RowKit Go.BigFrame

set_option maxRecDepth 100000 in
set_option maxHeartbeats 1000000 in
theorem wideEnough_TxtLeast (nd : ByteArray → Int) (hnd : ∀ s, 0 ≤ nd s ∧ nd s ≤ 30) (KN : ∀ (s : ByteArray) (W : World), s.size ≤ maxLen → Calls Tryz.prog 47 #[.string s] W fun e w' => e = .returned (.int .i64 (nd s)) ∧ Below W.heap.size W w')
    (ac ar : Option Addr) (cc cr : Nat) (t : T) (hD : Drawn t) (w : World) {z : Nat} (hc : ColsAt w z (.slice ac t.cols.length cc) t.cols) (hr : RowsAt w z (.slice ar t.rows.length cr) t.rows) (C : Nat) (hgc : (gOf t).cols = C) :
    Calls Tryz.prog 46 #[.agg #[.slice ac t.cols.length cc, .int .i64 t.head, .int .i64 t.foot, .slice ar t.rows.length cr, .int .i64 t.gap], .func (.func 47) #[] #[]] w fun e w' => ∃ v, e = .returned v ∧ RowI w' w.heap.size w'.heap.size v (needTo (fun x => nd (textOf t x)) t.gap (gOf t).cells (zeroL C) 4) ∧ Below w.heap.size w w' := by
  obtain ⟨h40, C', hgc', hC88, hcel⟩ := cel_of hD
  obtain rfl : C' = C := by rw [hgc'] at hgc; omega
  have K0 := k_alloc (Below.refl w.heap.size w) (.cells #[.slice ac t.cols.length cc, .int .i64 t.head, .int .i64 t.foot, .slice ar t.rows.length cr, .int .i64 t.gap] 26)
  have HN := Hid.intro KN
  have HCel := Hid.intro hcel
  have HDr := Hid.intro hD
  have HGC := Hid.intro hgc'
  have hup := need_up (p := fun x => nd (textOf t x)) (l := zeroL C') hcel h40 (by simp [zeroL]) (fun x => (hnd _).2) (zero_up _)
  have HUp := Hid.intro hup
  have hps := fun s hs => pass_up (p := fun x => nd (textOf t x)) (s := ((s + 1 : Nat) : Int)) (l := needTo (fun x => nd (textOf t x)) t.gap (gOf t).cells (zeroL C') s) hcel (by rw [needTo_len]; simp [zeroL]) (fun x => (hnd _).2) (hup s hs)
  have HPs := Hid.intro hps
  have HT := Hid.intro (And.intro (hc.kept K0) (hr.kept K0))
  have HX := Hid.intro (newestB w (.cells #[.slice ac t.cols.length cc, .int .i64 t.head, .int .i64 t.foot, .slice ar t.rows.length cr, .int .i64 t.gap] 26))
  have HK := Hid.intro K0
  have hmk := makeI C' (by omega)
  have hmx : Tryz.prog.follows .mixedOrders = true := by kernel_rfl
  clear hcel hD hup hps hc hr K0 KN hgc' hgc
  go_enter Tryz.func46, Tryz.ntmps46
  go_wp2_with fail
  refine (implGrdOf ac ar cc cr t HDr.out _ HT.out.1 HT.out.2).mono ?_
  rintro e w2 ⟨vg, rfl, hO2, hb2⟩
  obtain ⟨ag, cg, rfl⟩ := own_slice hO2
  have hG2 := hO2.at (gOf_gok HDr.out)
  have HW : Hid (Ws w z w2.heap.size ac ar cc cr t ag cg (w2.alloc (.cells #[.int .i64 (gOf t).rows, .int .i64 (gOf t).cols, .slice ag (gOf t).cells.length cg] 46))) :=
    ⟨k_alloc (k_trans HK.out hb2) _, ⟨(HT.out.1.kept hb2).kept (k_alloc (Below.refl _ _) _), (HT.out.2.kept hb2).kept (k_alloc (Below.refl _ _) _)⟩, (Below.heap_alloc _ _ _ (Nat.lt_of_lt_of_le (by simp) hb2.size)).trans ((hb2.block w.heap.size (by simp)).trans HX.out), (hG2.base (by simp)).kept (k_alloc (Below.refl _ _) _), newestB _ _⟩
  have hz2 : w.heap.size < w2.heap.size := Nat.lt_of_lt_of_le (by simp) hb2.size
  clear hO2 hb2 hG2 HT HX HK
  go_upto_region 2 with fail
  generalize hW3 : w2.alloc (.cells #[.int .i64 (gOf t).rows, .int .i64 (gOf t).cols, .slice ag (gOf t).cells.length cg] 46) = W3 at HW ⊢
  have hz3 : W3.heap.size = w2.heap.size + 1 := by rw [← hW3]; simp
  clear hW3
  obtain ⟨y0, y1, y2, y3⟩ := HW.out.at
  rw [HGC.out] at y2
  go_wp2_with fail
  clear hmk y0 y1 y2 y3
  have S0 : Hid (RowI (W3.alloc (.cells (newI C') 3)) (w2.heap.size + 1) (w2.heap.size + 2) (.slice (some ⟨w2.heap.size + 1, 0, none⟩) C' C') (zeroL C')) := by have h := row_new W3 C' (by omega); rw [hz3] at h; exact h
  go_loopw [7] (fun s W => ∃ m : Nat, s = .int .i64 ((m : Int) + 1) ∧ m ≤ 4 ∧ Hid (RowI W (w2.heap.size + 1) (w2.heap.size + 2) (.slice (some ⟨w2.heap.size + 1, 0, none⟩) C' C') (needTo (fun x => nd (textOf t x)) t.gap (gOf t).cells (zeroL C') m)) ∧ Hid (Below W3.heap.size W3 W) ∧ W3.heap.size < W.heap.size) (fun s _ => 5 - (intOf s).toNat)
  case atStart => exact ⟨0, rfl, by omega, S0, k_alloc (Below.refl _ _) _, by simp⟩
  case round =>
    clear S0
    obtain ⟨m, rfl, hm, HR, HB, hsz⟩ := hrel
    by_cases hlt : m < 4
    case neg =>
      obtain rfl : m = 4 := by omega
      have hK := Hid.intro (HW.out.1.trans (HB.out.mono (by omega)))
      have HF := Hid.intro (HR.out.base (B' := w.heap.size) (D' := wr.heap.size) (by omega) (by omega))
      go_wp2
      go_ret
      exact ⟨_, rfl, HF.out, hK.out⟩
    have HWr := Hid.intro (HW.out.kept HB.out)
    obtain ⟨y0, y1, y2, y3⟩ := HWr.out.at
    rw [HGC.out] at y2
    go_wp2_with fail
    clear y0 y1 y2 y3 HWr
    have HUm := Hid.intro (HPs.out m (by omega) (by omega))
    rw [show decide ((m : Int) + 1 ≤ 4) = true by simp; omega]
    go_loopw [22] (fun s W => ∃ k : Nat, s = .int .i64 k ∧ k ≤ (gOf t).cells.length ∧ Hid (RowI W (w2.heap.size + 1) (w2.heap.size + 2) (.slice (some ⟨w2.heap.size + 1, 0, none⟩) C' C') (passTo (fun x => nd (textOf t x)) t.gap ((m + 1 : Nat) : Int) (gOf t).cells (needTo (fun x => nd (textOf t x)) t.gap (gOf t).cells (zeroL C') m) k)) ∧ Hid (Below W3.heap.size W3 W) ∧ W3.heap.size < W.heap.size) (fun s _ => (gOf t).cells.length - (intOf s).toNat)
    case atStart => exact ⟨0, rfl, Nat.zero_le _, HR, HB, hsz⟩
    case round =>
      clear HR HB hsz
      obtain ⟨k, rfl, hk, HR, HB, hsz⟩ := hrel
      by_cases hkl : k < (gOf t).cells.length
      case neg =>
        obtain rfl : k = (gOf t).cells.length := by omega
        go_wp2
        go_roundw
        case rel => exact ⟨m + 1, by go_num, by omega, HR, HB, hsz⟩
        case measure => simp [intOf]; omega
      have HWr := Hid.intro (HW.out.kept HB.out)
      obtain ⟨b, off, cap', e', hc1, hc2, hbl, hx, _⟩ := At.get HWr.out.2.2.2.1 hkl
      simp only [Value.slice.injEq, true_and] at e'
      obtain ⟨rfl, rfl⟩ := e'
      unfold maxLen at hc2
      have HCe := Hid.intro (HCel.out k hkl)
      obtain ⟨⟨rn, jn, cn, mn, e1, e2, e3, e4, h1, h2, h3, h4, h5⟩, hgp, hrs⟩ := HCel.out k hkl
      have HSz : Hid ((textOf t ((gOf t).cells.getD k dG)).size ≤ maxLen) := text_size HCe.out HWr.out.2.1.2
      have hub := HUm.out k hk
      have HNo : Hid ((mn : Int) ≠ ((m + 1 : Nat) : Int) → passTo (fun x => nd (textOf t x)) t.gap ((m + 1 : Nat) : Int) (gOf t).cells (needTo (fun x => nd (textOf t x)) t.gap (gOf t).cells (zeroL C') m) (k + 1) = passTo (fun x => nd (textOf t x)) t.gap ((m + 1 : Nat) : Int) (gOf t).cells (needTo (fun x => nd (textOf t x)) t.gap (gOf t).cells (zeroL C') m) k) := fun h => by rw [passTo, if_neg (by rw [e4]; exact h)]
      have HYes : Hid ((mn : Int) = ((m + 1 : Nat) : Int) → passTo (fun x => nd (textOf t x)) t.gap ((m + 1 : Nat) : Int) (gOf t).cells (needTo (fun x => nd (textOf t x)) t.gap (gOf t).cells (zeroL C') m) (k + 1) = wideL (passTo (fun x => nd (textOf t x)) t.gap ((m + 1 : Nat) : Int) (gOf t).cells (needTo (fun x => nd (textOf t x)) t.gap (gOf t).cells (zeroL C') m) k) cn mn t.gap (nd (textOf t ((gOf t).cells.getD k dG)))) := fun h => by rw [passTo, if_pos (by rw [e4]; exact h), e3, e4, Int.toNat_natCast, Int.toNat_natCast]
      have hpl := passTo_len (fun x => nd (textOf t x)) t.gap ((m + 1 : Nat) : Int) (gOf t).cells (needTo (fun x => nd (textOf t x)) t.gap (gOf t).cells (zeroL C') m) k
      rw [needTo_len, show (zeroL C').length = C' by simp [zeroL]] at hpl
      generalize (gOf t).cells.getD k dG = x at hx e1 e2 e3 e4 HYes hrs HCe HSz
      generalize hL : passTo (fun x => nd (textOf t x)) t.gap ((m + 1 : Nat) : Int) (gOf t).cells (needTo (fun x => nd (textOf t x)) t.gap (gOf t).cells (zeroL C') m) k = L at HR HNo HYes hub hpl
      clear hL
      have HKT := Hid.intro (fun (W : World) (hR : RowsAt W z (.slice ar t.rows.length cr) t.rows) => impltextOf ac ar cc cr t x HCe.out W hR)
      simp only [e1, e2, e3, e4] at HKT
      obtain ⟨x0, x1, x2, x3, x4⟩ := hx
      rw [e1] at x0
      rw [e2] at x4
      rw [e3] at x1
      rw [e4] at x3
      by_cases hms : (mn : Int) = (m : Int) + 1
      case neg =>
        have hmb : ((mn : Int) == (m : Int) + 1) = false := by simpa using hms
        have HL := Hid.intro (HNo.out (by omega))
        clear HNo HYes e1 e2 e3 e4 hms
        go_wp2
        go_roundw
        case rel => exact ⟨k + 1, by go_num, by omega, by rw [HL.out]; exact HR.out.kept (fun j h0 _ _ => Below.heap_alloc _ _ _ h0), k_alloc HB.out _, by simp; omega⟩
        case measure => simp [intOf]; omega
      obtain rfl : mn = m + 1 := by omega
      have HL := Hid.intro (HYes.out rfl)
      have hmb : ((m : Int) + 1 == (m : Int) + 1) = true := by simp
      have hcast : ((m + 1 : Nat) : Int) = (m : Int) + 1 := by omega
      rw [hcast] at x3
      simp only [hcast] at HKT
      clear hcast
      clear HNo HYes e1 e2 e3 e4 hms
      go_upto_region 10 with fail
      have HW4 : Hid (Ws w z w2.heap.size ac ar cc cr t (some ⟨b, off, none⟩) cg (wr.alloc (.cells #[.int .i64 (rn : Int), .int .i64 (cn : Int), .int .i64 x.rows, .int .i64 ((m : Int) + 1), .int .i64 (jn : Int)] 50))) := HWr.out.kept (k_alloc (Below.refl _ _) _)
      have HB4 := Hid.intro (k_alloc HB.out (.cells #[.int .i64 (rn : Int), .int .i64 (cn : Int), .int .i64 x.rows, .int .i64 ((m : Int) + 1), .int .i64 (jn : Int)] 50))
      have HR4 := Hid.intro (HR.out.kept (fun j h0 _ _ => Below.heap_alloc wr (.cells #[.int .i64 (rn : Int), .int .i64 (cn : Int), .int .i64 x.rows, .int .i64 ((m : Int) + 1), .int .i64 (jn : Int)] 50) j h0))
      have HX4 := Hid.intro (newestB wr (.cells #[.int .i64 (rn : Int), .int .i64 (cn : Int), .int .i64 x.rows, .int .i64 ((m : Int) + 1), .int .i64 (jn : Int)] 50))
      have hsz4 : W3.heap.size < (wr.alloc (.cells #[.int .i64 (rn : Int), .int .i64 (cn : Int), .int .i64 x.rows, .int .i64 ((m : Int) + 1), .int .i64 (jn : Int)] 50)).heap.size := by simp; omega
      generalize wr.alloc (.cells #[.int .i64 (rn : Int), .int .i64 (cn : Int), .int .i64 x.rows, .int .i64 ((m : Int) + 1), .int .i64 (jn : Int)] 50) = W4 at HW4 HB4 HR4 HX4 hsz4 ⊢
      generalize wr.heap.size = cb at HX4 ⊢
      clear HWr HR HB hsz x0 x1 x2 x3 x4 hbl
      have q1 : W4.cell? ⟨cb, 1, none⟩ = some (.int .i64 (cn : Int)) := cellB HX4.out
      have hcb : cb < W4.heap.size := (Array.getElem?_eq_some_iff.1 HX4.out).1
      have htb : w.heap.size < W4.heap.size := (Array.getElem?_eq_some_iff.1 HW4.out.2.2.1).1
      obtain ⟨y0, y1, y2, y3⟩ := HW4.out.at
      obtain ⟨t3, t4, t5, t6, t10, t11, t12, t13⟩ := slice_facts h3 hC88
      have hne := bw_some W4
      have g0 := bw_cell (a := ⟨cb, 0, none⟩) hcb (cellB (p := 0) HX4.out)
      have g1 := bw_cell (a := ⟨cb, 1, none⟩) hcb (cellB (p := 1) HX4.out)
      have g2 := bw_cell (a := ⟨cb, 2, none⟩) hcb (cellB (p := 2) HX4.out)
      have g3 := bw_cell (a := ⟨cb, 3, none⟩) hcb (cellB (p := 3) HX4.out)
      have g4 := bw_cell (a := ⟨cb, 4, none⟩) hcb (cellB (p := 4) HX4.out)
      have b0 := bw_cell (a := ⟨w.heap.size, 0, none⟩) htb (cellB (p := 0) HW4.out.2.2.1)
      have b1 := bw_cell (a := ⟨w.heap.size, 1, none⟩) htb (cellB (p := 1) HW4.out.2.2.1)
      have b2 := bw_cell (a := ⟨w.heap.size, 2, none⟩) htb (cellB (p := 2) HW4.out.2.2.1)
      have b3 := bw_cell (a := ⟨w.heap.size, 3, none⟩) htb (cellB (p := 3) HW4.out.2.2.1)
      have b4 := bw_cell (a := ⟨w.heap.size, 4, none⟩) htb (cellB (p := 4) HW4.out.2.2.1)
      have KT := Hid.intro (fun (p : BW W4) => bw_of ((HKT.out p.u (HW4.out.kept p.h).2.1.2).mono (fun _ _ ⟨h1, _, h2⟩ => And.intro h1 h2)))
      have KND := Hid.intro (fun (p : BW W4) => bw_of (HN.out (textOf t x) p.u HSz.out))
      have KW := Hid.intro (fun W => widen_any (w2.heap.size + 1) (w2.heap.size + 2) (w2.heap.size + 1) C' C' L (fun i hi => by have := hub i hi; omega) cn (m + 1) (by rw [hpl]; exact h3) ⟨h4, h5⟩ t.gap (nd (textOf t x)) hgp (hnd (textOf t x)) W)
      clear y0 y1 y2 y3 q1
      refine wp_region_last 15 hmx (by rfl) (by rfl) (by kernel_rfl) (by kernel_rfl) ?_
      simp only [List.take_succ_cons, List.take_zero]
      repeat (go_big_quiet_step (first | (go_at_call 56; refine KT.out _) | (go_at_call 47; refine KND.out _)))
      refine wpQuiet_nil ?_
      intro W5 hw'
      obtain ⟨⟨Wx, hW5⟩, hw''⟩ := hw'
      subst hw''
      have HB5 := Hid.intro (HB4.out.trans (hW5.mono (Nat.le_of_lt hsz4)))
      have HR5 := Hid.intro (HR4.out.kept (fun j h0 _ _ => hW5.block j h0))
      have hsz5 : W3.heap.size < W5.heap.size := Nat.lt_of_lt_of_le hsz4 hW5.size
      clear g0 g1 g2 g3 g4 b0 b1 b2 b3 b4 KT KND HKT HW4 HB4 HR4 HX4 hsz4 hW5 hne
      rw [if_pos (by rfl)]
      go_simp
      go_wp2_with (go_at_call 90; refine (KW.out W5 HR5.out (by omega)).mono ?_; rintro e w7 ⟨rfl, hr7, hk7⟩; have HR7 := Hid.intro hr7; have HB7 := Hid.intro (HB5.out.trans (hk7.below (Nat.le_of_lt hsz5) (by omega))); have hsz7 : W3.heap.size < w7.heap.size := Nat.lt_of_lt_of_le hsz5 hk7.size; clear hr7 hk7)
      go_roundw
      case rel => exact ⟨k + 1, by go_num, by omega, by rw [HL.out]; exact HR7.out, HB7, hsz7⟩
      case measure => simp [intOf]; omega
end Go.Proofs.YtfkkhfiiokhnaafGreat
