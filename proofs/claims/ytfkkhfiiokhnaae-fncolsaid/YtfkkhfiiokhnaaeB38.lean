/-
  PROVED HERE: the program's cellOf is a cell at its place in a drawn table; nothing that was in memory is turned. Also: the program's textOf is the text of a cell at its place in a drawn table; nothing that was in memory is turned. Also: the model's l5Text is the text of a cell at its place in a drawn table; nothing that was in memory is turned. Also: what the model's TxtWords answers: a text's words, in new memory; nothing that was in memory is turned. Also: what the model's TxtLeast answers: how long the longest of a text's words is; nothing that was in memory is turned.
-/
import Derived.Test.YtfkkhfiiokhnaaeB36
import Derived.Test.YtfkkhfiiokhnaaeB32
import Derived.Test.YtfkkhfiiokhnaaeB4
import Derived.Test.YtfkkhfiiokhnaaeB5
import Derived.Test.YtfkkhfiiokhnaaeB6
import Derived.Deep.DeepCutAuto
import Derived.Deep.RegionWith
import Derived.Deep.QuietTactic
import Derived.BigQuiet
import Derived.Laws.AppendOwn
import Derived.Laws.Externs
import Derived.Lib.Walk
import Derived.Lib.Slices
namespace Go.Proofs.Ytfkkhfiiokhnaae
open Go.RowKit Go.BigFrame

/-- a cell of a grid, as it stands in its table -/
def cellAt (t : T) (x : GC) : C := (t.rows.getD x.row.toNat dR).cells.getD x.ins.toNat dC
set_option maxRecDepth 100000 in
set_option maxHeartbeats 2000000 in
theorem implcellOf (ac ar : Option Addr) (cc cr : Nat) (t : T) (x : GC) {C : Nat} (hx : Cel t C x) (w : World) {z : Nat} (hr : RowsAt w z (.slice ar t.rows.length cr) t.rows) :
    Calls Try.prog 68 #[.agg #[.slice ac t.cols.length cc, .int .i64 t.head, .int .i64 t.foot, .slice ar t.rows.length cr, .int .i64 t.gap], .agg #[.int .i64 x.row, .int .i64 x.col, .int .i64 x.rows, .int .i64 x.cols, .int .i64 x.ins]] w fun e w' => e = .returned (.agg #[.string (cellAt t x).s, .int .i64 (cellAt t x).c, .int .i64 (cellAt t x).r, .int .i64 (cellAt t x).a1, .int .i64 (cellAt t x).b1, .int .i64 (cellAt t x).a2, .int .i64 (cellAt t x).b2, .int .i64 (cellAt t x).a3, .int .i64 (cellAt t x).b3, .int .i64 (cellAt t x).a4, .int .i64 (cellAt t x).b4]) ∧ (cellAt t x).s.size ≤ maxLen ∧ Below w.heap.size w w' := by
  obtain ⟨rn, jn, cn, mn, e1, e2, e3, e4, h1, h2, h3, h4, h5⟩ := hx.ex
  have HTx : Hid (cellAt t x = (t.rows.getD rn dR).cells.getD jn dC) := by rw [Hid, cellAt, e1, e2, Int.toNat_natCast, Int.toNat_natCast]
  have hmx : Try.prog.follows .mixedOrders = true := by kernel_rfl
  have K1 := k_alloc (Below.refl w.heap.size w) (.cells #[.slice ac t.cols.length cc, .int .i64 t.head, .int .i64 t.foot, .slice ar t.rows.length cr, .int .i64 t.gap] 26)
  have X1 := newestB w (.cells #[.slice ac t.cols.length cc, .int .i64 t.head, .int .i64 t.foot, .slice ar t.rows.length cr, .int .i64 t.gap] 26)
  have hs1 : (w.alloc (.cells #[.slice ac t.cols.length cc, .int .i64 t.head, .int .i64 t.foot, .slice ar t.rows.length cr, .int .i64 t.gap] 26)).heap.size = w.heap.size + 1 := by simp
  rw [e1, e2]
  clear e1 e2 e3 e4
  go_enter Try.func68, Try.ntmps68
  go_upto_region 1 with fail
  have K2 := k_alloc K1 (.cells #[.int .i64 (rn : Int), .int .i64 x.col, .int .i64 x.rows, .int .i64 x.cols, .int .i64 (jn : Int)] 39)
  have X2 := newestB (w.alloc (.cells #[.slice ac t.cols.length cc, .int .i64 t.head, .int .i64 t.foot, .slice ar t.rows.length cr, .int .i64 t.gap] 26)) (.cells #[.int .i64 (rn : Int), .int .i64 x.col, .int .i64 x.rows, .int .i64 x.cols, .int .i64 (jn : Int)] 39)
  have X1' := (Below.heap_alloc (w.alloc (.cells #[.slice ac t.cols.length cc, .int .i64 t.head, .int .i64 t.foot, .slice ar t.rows.length cr, .int .i64 t.gap] 26)) (.cells #[.int .i64 (rn : Int), .int .i64 x.col, .int .i64 x.rows, .int .i64 x.cols, .int .i64 (jn : Int)] 39) w.heap.size (by omega)).trans X1
  rw [hs1] at X2
  have hs2 : ((w.alloc (.cells #[.slice ac t.cols.length cc, .int .i64 t.head, .int .i64 t.foot, .slice ar t.rows.length cr, .int .i64 t.gap] 26)).alloc (.cells #[.int .i64 (rn : Int), .int .i64 x.col, .int .i64 x.rows, .int .i64 x.cols, .int .i64 (jn : Int)] 39)).heap.size = w.heap.size + 2 := by simp
  generalize (w.alloc (.cells #[.slice ac t.cols.length cc, .int .i64 t.head, .int .i64 t.foot, .slice ar t.rows.length cr, .int .i64 t.gap] 26)).alloc (.cells #[.int .i64 (rn : Int), .int .i64 x.col, .int .i64 x.rows, .int .i64 x.cols, .int .i64 (jn : Int)] 39) = W2 at K2 X2 X1' hs2 ⊢
  have K3 := k_alloc K2 (.cells #[.string ⟨#[]⟩, .int .i64 0, .int .i64 0, .int .i64 0, .int .i64 0, .int .i64 0, .int .i64 0, .int .i64 0, .int .i64 0, .int .i64 0, .int .i64 0] 64)
  have X3 := newestB W2 (.cells #[.string ⟨#[]⟩, .int .i64 0, .int .i64 0, .int .i64 0, .int .i64 0, .int .i64 0, .int .i64 0, .int .i64 0, .int .i64 0, .int .i64 0, .int .i64 0] 64)
  have X1'' := (Below.heap_alloc W2 (.cells #[.string ⟨#[]⟩, .int .i64 0, .int .i64 0, .int .i64 0, .int .i64 0, .int .i64 0, .int .i64 0, .int .i64 0, .int .i64 0, .int .i64 0, .int .i64 0] 64) w.heap.size (by omega)).trans X1'
  have X2' := (Below.heap_alloc W2 (.cells #[.string ⟨#[]⟩, .int .i64 0, .int .i64 0, .int .i64 0, .int .i64 0, .int .i64 0, .int .i64 0, .int .i64 0, .int .i64 0, .int .i64 0, .int .i64 0] 64) (w.heap.size + 1) (by omega)).trans X2
  rw [show W2.heap.size = w.heap.size + 1 + 1 by omega] at X3
  generalize W2.alloc (.cells #[.string ⟨#[]⟩, .int .i64 0, .int .i64 0, .int .i64 0, .int .i64 0, .int .i64 0, .int .i64 0, .int .i64 0, .int .i64 0, .int .i64 0, .int .i64 0] 64) = W at K3 X3 X1'' X2' ⊢
  clear K1 X1 hs1 K2 X2 X1' hs2
  obtain ⟨rb, roff, rcap, re, rc1, rc2, rbl, u, hu0, _, hu⟩ := At.get (hr.kept K3) h1
  simp only [Value.slice.injEq, true_and] at re
  obtain ⟨rfl, rfl⟩ := re
  obtain ⟨qb, qoff, qcap, qe, qc1, qc2, qbl, hv, hsl⟩ := At.get hu h2
  subst qe
  obtain ⟨v0, v1, v2, v3, v4, v5, v6, v7, v8, v9, v10⟩ := hv
  have l1 : w.heap.size < W.heap.size := (Array.getElem?_eq_some_iff.1 X1'').1
  have l2 : w.heap.size + 1 < W.heap.size := (Array.getElem?_eq_some_iff.1 X2').1
  have hne := bw_some W
  have m0 := bw_cell (a := ⟨w.heap.size, 3, none⟩) l1 (cellB (p := 3) X1'')
  have m1 := bw_cell (a := ⟨w.heap.size + 1, 0, none⟩) l2 (cellB (p := 0) X2')
  have m2 := bw_cell (a := ⟨w.heap.size + 1, 4, none⟩) l2 (cellB (p := 4) X2')
  have m3 := bw_cell rbl hu0
  have n0 := bw_cell qbl v0
  have n1 := bw_cell qbl v1
  have n2 := bw_cell qbl v2
  have n3 := bw_cell qbl v3
  have n4 := bw_cell qbl v4
  have n5 := bw_cell qbl v5
  have n6 := bw_cell qbl v6
  have n7 := bw_cell qbl v7
  have n8 := bw_cell qbl v8
  have n9 := bw_cell qbl v9
  have n10 := bw_cell qbl v10
  have HSZ : Hid ((cellAt t x).s.size ≤ maxLen) := by rw [Hid, HTx.out]; exact hsl
  have HK := Hid.intro K3
  have HX3 := Hid.intro X3
  unfold maxLen at rc2 qc2
  generalize (t.rows.getD rn dR).cells.getD jn dC = y at *
  generalize (t.rows.getD rn dR).cells.length = rl at h2 m3 qc1
  clear hu hu0 hr h3 h4 h5 hx K3 X3 X1'' X2' v0 v1 v2 v3 v4 v5 v6 v7 v8 v9 v10 hsl
  refine wp_region_last 11 hmx (by rfl) (by rfl) (by kernel_rfl) (by kernel_rfl) ?_
  simp only [List.take_succ_cons, List.take_zero]
  repeat (go_big_quiet_step (fail))
  refine wpQuiet_nil ?_
  intro W5 hw'
  obtain ⟨⟨Wx, hW5⟩, hw''⟩ := hw'
  subst hw''
  have l3 : w.heap.size + 1 + 1 < W.heap.size := (Array.getElem?_eq_some_iff.1 HX3.out).1
  have X5 := (hW5.block _ l3).trans HX3.out
  obtain ⟨⟨c0, c1, c2, c3, c4, c5, c6, c7, c8, c9, c10⟩, f0, f1, f2, f3, f4, f5, f6, f7, f8, f9, f10⟩ := cells11 X5
  have HK5 := Hid.intro (k_trans HK.out hW5)
  clear m0 m1 m2 m3 n0 n1 n2 n3 n4 n5 n6 n7 n8 n9 n10 hne hW5 X5
  rw [if_pos (by rfl)]
  go_simp
  go_wp2
  exact bodyPost_ret (v := .agg #[.string y.s, .int .i64 y.c, .int .i64 y.r, .int .i64 y.a1, .int .i64 y.b1, .int .i64 y.a2, .int .i64 y.b2, .int .i64 y.a3, .int .i64 y.b3, .int .i64 y.a4, .int .i64 y.b4]) (by simp [results, Try.results68, go_sem, c0, c1, c2, c3, c4, c5, c6, c7, c8, c9, c10]) rfl ⟨by rw [HTx.out], HSZ.out, HK5.out.trans ((st11_bk W5 (w.heap.size + 1 + 1) (.string y.s) (.int .i64 y.c) (.int .i64 y.r) (.int .i64 y.a1) (.int .i64 y.b1) (.int .i64 y.a2) (.int .i64 y.b2) (.int .i64 y.a3) (.int .i64 y.b3) (.int .i64 y.a4) (.int .i64 y.b4)).below HK5.out.size (by omega))⟩
end Go.Proofs.Ytfkkhfiiokhnaae
namespace Go.Proofs.Ytfkkhfiiokhnaae
open Go.RowKit

theorem text_size {t : T} {x : GC} {C : Nat} (hx : Cel t C x) {w : World} {z : Nat} {v : Value} (hr : RowsAt w z v t.rows) : (textOf t x).size ≤ maxLen := by
  obtain ⟨rn, jn, cn, mn, e1, e2, e3, e4, h1, h2, h3, h4, h5⟩ := hx.ex
  rw [textOf, e1, e2, Int.toNat_natCast, Int.toNat_natCast]
  obtain ⟨rb, roff, rcap, re, rc1, rc2, rbl, u, hu0, _, hu⟩ := At.get hr h1
  obtain ⟨qb, qoff, qcap, qe, qc1, qc2, qbl, hv, hsl⟩ := At.get hu h2
  exact hsl
theorem field_first (s : ByteArray) (x1 x2 x3 x4 x5 x6 x7 x8 x9 x10 : Value) (W : World) : (Instr.field 64 (.agg #[.string s, x1, x2, x3, x4, x5, x6, x7, x8, x9, x10]) 0).run Try.prog W = .ok (.string s) W := by kernel_rfl
set_option maxRecDepth 100000 in
set_option maxHeartbeats 2000000 in
theorem impltextOf (ac ar : Option Addr) (cc cr : Nat) (t : T) (x : GC) {C : Nat} (hx : Cel t C x) (w : World) {z : Nat} (hr : RowsAt w z (.slice ar t.rows.length cr) t.rows) :
    Calls Try.prog 45 #[.agg #[.slice ac t.cols.length cc, .int .i64 t.head, .int .i64 t.foot, .slice ar t.rows.length cr, .int .i64 t.gap], .agg #[.int .i64 x.row, .int .i64 x.col, .int .i64 x.rows, .int .i64 x.cols, .int .i64 x.ins]] w fun e w' => e = .returned (.string (textOf t x)) ∧ (textOf t x).size ≤ maxLen ∧ Below w.heap.size w w' := by
  have HC := Hid.intro (implcellOf ac ar cc cr t x hx)
  have hfl := field_first
  have K2 := k_alloc (k_alloc (Below.refl w.heap.size w) (.cells #[.slice ac t.cols.length cc, .int .i64 t.head, .int .i64 t.foot, .slice ar t.rows.length cr, .int .i64 t.gap] 26)) (.cells #[.int .i64 x.row, .int .i64 x.col, .int .i64 x.rows, .int .i64 x.cols, .int .i64 x.ins] 39)
  have HR := Hid.intro (hr.kept K2)
  have HK := Hid.intro K2
  clear hr hx K2
  go_enter Try.func45, Try.ntmps45
  go_wp2_with fail
  refine (HC.out _ HR.out).mono ?_
  rintro e w1 ⟨rfl, hsz, hb1⟩
  have HK1 := Hid.intro (k_trans HK.out hb1)
  clear hb1 HK HR HC
  go_wp2
  go_ret
  exact ⟨rfl, hsz, HK1.out⟩
end Go.Proofs.Ytfkkhfiiokhnaae
namespace Go.Proofs.Ytfkkhfiiokhnaae
open Go.RowKit

set_option maxRecDepth 100000 in
set_option maxHeartbeats 2000000 in
theorem specl5Text (ac ar : Option Addr) (cc cr : Nat) (t : T) (x : GC) {C : Nat} (hx : Cel t C x) (w : World) {z : Nat} (hr : RowsAt w z (.slice ar t.rows.length cr) t.rows) :
    Calls Try.prog 72 #[.agg #[.slice ac t.cols.length cc, .int .i64 t.head, .int .i64 t.foot, .slice ar t.rows.length cr, .int .i64 t.gap], .agg #[.int .i64 x.row, .int .i64 x.col, .int .i64 x.rows, .int .i64 x.cols, .int .i64 x.ins]] w fun e w' => e = .returned (.string (textOf t x)) ∧ (textOf t x).size ≤ maxLen ∧ Below w.heap.size w w' := by
  obtain ⟨rn, jn, cn, mn, e1, e2, e3, e4, h1, h2, h3, h4, h5⟩ := hx.ex
  have HTx : Hid (textOf t x = ((t.rows.getD rn dR).cells.getD jn dC).s) := by rw [Hid, textOf, e1, e2, Int.toNat_natCast, Int.toNat_natCast]
  have K1 := k_alloc (Below.refl w.heap.size w) (.cells #[.slice ac t.cols.length cc, .int .i64 t.head, .int .i64 t.foot, .slice ar t.rows.length cr, .int .i64 t.gap] 26)
  have X1 := newestB w (.cells #[.slice ac t.cols.length cc, .int .i64 t.head, .int .i64 t.foot, .slice ar t.rows.length cr, .int .i64 t.gap] 26)
  have hs1 : (w.alloc (.cells #[.slice ac t.cols.length cc, .int .i64 t.head, .int .i64 t.foot, .slice ar t.rows.length cr, .int .i64 t.gap] 26)).heap.size = w.heap.size + 1 := by simp
  rw [e1, e2]
  clear e1 e2 e3 e4
  go_enter Try.func72, Try.ntmps72
  go_upto_region 1 with fail
  have K2 := k_alloc K1 (.cells #[.int .i64 (rn : Int), .int .i64 x.col, .int .i64 x.rows, .int .i64 x.cols, .int .i64 (jn : Int)] 39)
  have X2 := newestB (w.alloc (.cells #[.slice ac t.cols.length cc, .int .i64 t.head, .int .i64 t.foot, .slice ar t.rows.length cr, .int .i64 t.gap] 26)) (.cells #[.int .i64 (rn : Int), .int .i64 x.col, .int .i64 x.rows, .int .i64 x.cols, .int .i64 (jn : Int)] 39)
  have X1' := (Below.heap_alloc (w.alloc (.cells #[.slice ac t.cols.length cc, .int .i64 t.head, .int .i64 t.foot, .slice ar t.rows.length cr, .int .i64 t.gap] 26)) (.cells #[.int .i64 (rn : Int), .int .i64 x.col, .int .i64 x.rows, .int .i64 x.cols, .int .i64 (jn : Int)] 39) w.heap.size (by omega)).trans X1
  rw [hs1] at X2
  generalize (w.alloc (.cells #[.slice ac t.cols.length cc, .int .i64 t.head, .int .i64 t.foot, .slice ar t.rows.length cr, .int .i64 t.gap] 26)).alloc (.cells #[.int .i64 (rn : Int), .int .i64 x.col, .int .i64 x.rows, .int .i64 x.cols, .int .i64 (jn : Int)] 39) = W at K2 X2 X1' ⊢
  obtain ⟨rb, roff, rcap, re, rc1, rc2, rbl, u, hu0, _, hu⟩ := At.get (hr.kept K2) h1
  simp only [Value.slice.injEq, true_and] at re
  obtain ⟨rfl, rfl⟩ := re
  obtain ⟨qb, qoff, qcap, qe, qc1, qc2, qbl, hv, hsl⟩ := At.get hu h2
  subst qe
  have v0 := hv.1
  have q3 := cellB (p := 3) X1'
  have q0 := cellB (p := 0) X2
  have q4 := cellB (p := 4) X2
  have HSZ : Hid ((textOf t x).size ≤ maxLen) := by rw [Hid, HTx.out]; exact hsl
  have HK := Hid.intro K2
  unfold maxLen at rc2 qc2
  generalize (t.rows.getD rn dR).cells.getD jn dC = y at v0 hsl HTx
  generalize (t.rows.getD rn dR).cells.length = rl at hu0 h2 qc1
  clear hu hv hr h3 h4 h5 hx K1 X1 hs1 K2 X2 X1'
  go_quiet (fail)
  go_wp2
  go_ret
  exact ⟨by rw [HTx.out]; rfl, HSZ.out, k_drewN HK.out nq⟩
end Go.Proofs.Ytfkkhfiiokhnaae
namespace Go.Proofs.Ytfkkhfiiokhnaae
open Go.RowKit

theorem infoSt : (Try.prog.info? 9).map (fun i => (i.zero, i.size, i.bytes)) = some (some (Value.string ⟨#[]⟩), 1, 16) := by kernel_rfl
theorem strs_len (out : List ByteArray) : (out.map Value.string).length = out.length := List.length_map ..
theorem extract_next {s : ByteArray} {j k : Nat} (hj : j ≤ k) (hk : k < s.size) : s.extract j k ++ ⟨#[s[k]]⟩ = s.extract j (k + 1) := by
  apply Go.WideShapes.bytes_inj
  rw [Joins.data_append, ByteArray.data_extract, ByteArray.data_extract]
  have hk' : k < s.data.size := hk
  rw [Array.toList_extract, Array.toList_extract]
  have e : s[k] = s.data.toList[k]'(by simpa using hk') := rfl
  rw [e]
  simp only [List.extract_eq_take_drop]
  rw [show k + 1 - j = (k - j) + 1 by omega, List.take_succ_eq_append_getElem (by rw [List.length_drop]; simp; omega), List.getElem_drop]
  simp [show j + (k - j) = k by omega]

set_option maxRecDepth 100000 in
set_option maxHeartbeats 1000000 in
theorem specCut (s : ByteArray) (hok : txtOkB s = true) (hz : 0 < s.size) (w : World) :
    Calls Try.prog 91 #[.string s] w fun e w' => ∃ v, e = .returned v ∧ w'.ownsRow w.heap.size 9 1 v (wordsFrom s 0).length ((wordsFrom s 0).map Value.string) ∧ Below w.heap.size w w' := by
  obtain ⟨i0, hi, hz0, hz1, hz2⟩ := info_parts infoSt
  have h30 : s.size ≤ 30 := ((txtOkB_iff s).1 hok).1
  go_enter Try.func91, Try.ntmps91
  go_wp2_with fail
  go_loopw [3, 4, 5] (fun o c i W => ∃ (k j : Nat) (out : List ByteArray), k ≤ s.size ∧ i = .int .i64 k ∧ c = .string (s.extract j k) ∧ j ≤ k ∧ j < s.size ∧ Hid (∀ m, j ≤ m → m < k → ch s m ≠ 32) ∧ Hid (Start s j) ∧ Hid (wordsFrom s 0 = out ++ wordsFrom s j) ∧ Hid (W.ownsRow w.heap.size 9 1 o out.length (out.map Value.string)) ∧ Hid (Below w.heap.size w W)) (fun _ _ i _ => s.size - (intOf i).toNat)
  case atStart => exact ⟨0, 0, [], Nat.zero_le _, rfl, congrArg Value.string (by rw [ByteArray.extract_same]; rfl), Nat.le_refl _, hz, fun m h1 h2 => absurd h2 (Nat.not_lt_zero _), start_zero hok, (List.nil_append _).symm, World.ownsRow_made w #[] 0 (Nat.le_refl _) (Nat.zero_le _) rfl, k_alloc (Below.refl _ _) _⟩
  case round =>
    obtain ⟨k, j, out, hk, rfl, rfl, hj, hjk, HN, HS, HO, HR, HB⟩ := hrel
    have hol : out.length ≤ s.size := by have := wordsFrom_len s 0; rw [HO.out] at this; simp at this; omega
    by_cases hlt : k < s.size
    · have HC : Hid (ch s k = (s[k].toNat : Int)) := ch_at hlt
      by_cases hc : (s[k].toNat : Int) = 32
      · have hc' : ((s[k].toNat : Int) == 32) = true := beq_iff_eq.2 hc
        go_wp2_with (at_builtin; refine wpList_append_own _ rfl _ _ 106 rfl w.heap.size 9 i0 (.string ⟨#[]⟩) 1 16 Try.underlying106 hi hz0 hz1 hz2 rfl (by decide) _ _ _ rfl (HR.out.alloc _) ⟨wr.heap.size, 0, none⟩ 1 1 [.string (s.extract j k)] rfl rfl ?c1 ?c2 ?c3 ?c4 ?c5 ?_)
        case c1 =>
          intro i u hi
          match i, hi with
          | 0, hi => simp at hi; subst hi; simp [Addr.add]
        case c2 => intro u hu; simp at hu; subst hu; rfl
        case c3 => unfold maxLen; omega
        case c4 => omega
        case c5 => have := HB.out.size; simp; omega
        intro v' w2 hown' hgrow' _
        have HB2 := Hid.intro ((k_alloc HB.out (.cells #[.string (s.extract j k)] 9)).grown hgrow' (by have := HB.out.size; simp; omega) (fun b hb => (HR.out.lt b hb).1))
        have HE : Hid (wend s j = k) := wend_of HN.out hj (Nat.le_of_lt hlt) (fun _ => HC.out.trans hc)
        have hk1 : k + 1 < s.size := by
          have hg := ((txtOkB_iff s).1 hok).2 k hlt
          simp [goodB, HC.out.trans hc] at hg
          omega
        have HW2 : Hid (wordsFrom s 0 = (out ++ [s.extract j k]) ++ wordsFrom s (k + 1)) := by
          show _ = _
          rw [HO.out, wordsFrom_go hjk, HE.out]; simp
        have HS2 : Hid (Start s (k + 1)) := by
          have := (start_next hok hjk HS.out).2.2.1
          rw [HE.out] at this
          exact this
        have HR2 := Hid.intro hown'
        obtain ⟨g', cap', rfl⟩ := Joins.ownsRow_form hown' (by omega)
        clear hown' hgrow' HR HB
        go_wp2
        go_roundw
        case rel => exact ⟨k + 1, k + 1, out ++ [s.extract j k], by omega, by go_num, congrArg Value.string (by rw [ByteArray.extract_same]; rfl), Nat.le_refl _, hk1, fun m h1 h2 => absurd h2 (by omega), HS2, HW2, by rw [List.length_append, List.map_append]; exact HR2, HB2⟩
        case measure => simp [intOf]; omega
      · have hc' : ((s[k].toNat : Int) == 32) = false := beq_eq_false_iff_ne.2 hc
        have hcv : (convert 22 9 (.slice (some ⟨wr.heap.size, 0, none⟩) 1 1)).run Try.prog (wr.alloc (.cells #[.int .u8 (s[k].toNat : Int)] 5)) = .ok (.string ⟨#[s[k]]⟩) (wr.alloc (.cells #[.int .u8 (s[k].toNat : Int)] 5)) :=
          run_convert_bytes_back _ _ _ 5 ⟨wr.heap.size, 0, none⟩ 1 [s[k]] Try.underlying22 Try.underlying5 Try.underlying9 (fun i hi => by
            match i, hi with
            | 0, _ => simp [Addr.add])
        have hz1 : ¬ 9223372036854775807 < (s.extract j k).size + 1 := by rw [ByteArray.size_extract]; omega
        have HX := Hid.intro (extract_next hj hlt)
        have hc2 : ch s k ≠ 32 := fun h => hc (HC.out.symm.trans h)
        have HN2 : Hid (∀ m, j ≤ m → m < k + 1 → ch s m ≠ 32) := fun m h1 h2 => by
          rcases Nat.lt_or_eq_of_le (Nat.lt_succ_iff.1 h2) with h3 | rfl
          · exact HN.out m h1 h3
          · exact hc2
        go_wp2
        go_roundw
        case rel => exact ⟨k + 1, j, out, by omega, by go_num, congrArg Value.string HX.out, by omega, hjk, HN2, HS, HO, HR.out.alloc _, k_alloc HB.out _⟩
        case measure => simp [intOf]; omega
    · obtain rfl : k = s.size := by omega
      have HE : Hid (wend s j = s.size) := wend_of HN.out hj (Nat.le_refl _) (fun h => absurd h (Nat.lt_irrefl _))
      have HW2 : Hid (wordsFrom s 0 = out ++ [s.extract j s.size]) := by
        show _ = _
        rw [HO.out, wordsFrom_go hjk, HE.out, wordsFrom_end (by omega)]
      go_wp2_with (at_builtin; refine wpList_append_own _ rfl _ _ 106 rfl w.heap.size 9 i0 (.string ⟨#[]⟩) 1 16 Try.underlying106 hi hz0 hz1 hz2 rfl (by decide) _ _ _ rfl (HR.out.alloc _) ⟨wr.heap.size, 0, none⟩ 1 1 [.string (s.extract j s.size)] rfl rfl ?c1 ?c2 ?c3 ?c4 ?c5 ?_)
      case c1 =>
        intro i u hi
        match i, hi with
        | 0, hi => simp at hi; subst hi; simp [Addr.add]
      case c2 => intro u hu; simp at hu; subst hu; rfl
      case c3 => unfold maxLen; omega
      case c4 => omega
      case c5 => have := HB.out.size; simp; omega
      intro v' w2 hown' hgrow' _
      have HB2 := Hid.intro ((k_alloc HB.out (.cells #[.string (s.extract j s.size)] 9)).grown hgrow' (by have := HB.out.size; simp; omega) (fun b hb => (HR.out.lt b hb).1))
      have HR2 := Hid.intro hown'
      obtain ⟨g', cap', rfl⟩ := Joins.ownsRow_form hown' (by omega)
      clear hown' hgrow' HR HB
      go_wp2
      go_ret
      exact ⟨_, rfl, by rw [HW2.out, List.length_append, List.map_append]; exact HR2.out, HB2.out⟩

/-- a list of words that lies in memory, as the model's functions read it -/
theorem words_get {w : World} {B : Nat} {v : Value} {l : List ByteArray} (h : w.ownsRow B 9 1 v l.length (l.map Value.string)) {i : Nat} (hi : i < l.length) :
    ∃ g cap, v = .slice (some ⟨g, 0, none⟩) l.length cap ∧ l.length ≤ cap ∧ cap ≤ maxLen ∧ w.cell? ⟨g, i, none⟩ = some (.string l[i]) := by
  rcases h.2 with ⟨_, h0⟩ | ⟨g, cap, cur, hv, _, hg, h1, h2, h3, h4⟩
  · omega
  · refine ⟨g, cap, hv, h1, h2, ?_⟩
    rw [cellB hg]
    have : cur.toList[i]? = (l.map Value.string)[i]? := by rw [← h4, List.getElem?_take_of_lt (by omega)]
    rw [← Array.getElem?_toList, this]
    simp [hi]

set_option maxRecDepth 100000 in
set_option maxHeartbeats 1000000 in
theorem specTxtWords (s : ByteArray) (hs : s.size ≤ maxLen) (w : World) :
    Calls Try.prog 83 #[.string s] w fun e w' => ∃ v, e = .returned v ∧ w'.ownsRow w.heap.size 9 1 v (wordsW s).length ((wordsW s).map (fun x => Value.string x.1)) ∧ Below w.heap.size w w' := by
  by_cases hz : s.size = 0
  · have hw0 : wordsW s = [] := by
      rw [wordsW]
      split
      · rw [wordsFrom_end (by omega)]; rfl
      · rfl
    have hnil := toList_nil hz
    have HW := Hid.intro hw0
    clear hw0
    go_enter Try.func83, Try.ntmps83
    go_wp2
    all_goals
      go_ret
      exact ⟨_, rfl, by rw [HW.out]; exact World.ownsRow_made w #[] 0 (Nat.le_refl _) (Nat.zero_le _) rfl, k_alloc (Below.refl _ _) _⟩
  · have he : ¬ s.toList = [] := fun h => hz (size_nil h)
    have he' : s.toList.isEmpty = false := by simpa using he
    cases hok : txtOkB s with
    | false =>
      have hw0 : wordsW s = [] := by rw [wordsW, if_neg (by rw [hok]; simp)]
      go_enter Try.func83, Try.ntmps83
      have HW := Hid.intro hw0
      clear hw0
      go_wp2_with (go_at_call 54; refine (specTxtOk s w hs).mono ?_; rintro e w' ⟨rfl, rfl⟩; rw [hok])
      go_ret
      exact ⟨_, rfl, by rw [HW.out]; exact World.ownsRow_made w' #[] 0 (Nat.le_refl _) (Nat.zero_le _) rfl, k_alloc (Below.refl _ _) _⟩
    | true =>
      have hp : 0 < s.size := by omega
      go_enter Try.func83, Try.ntmps83
      go_wp2_with (first
        | (go_at_call 54; refine (specTxtOk s _ hs).mono ?_; rintro e w' ⟨rfl, rfl⟩; rw [hok])
        | (go_at_call 91; refine (specCut s hok hp _).mono ?_; rintro e w' ⟨v, rfl, hv, hb⟩))
      go_ret
      exact ⟨_, rfl, by rw [words_len hok, words_map hok]; exact hv, hb⟩
/-- words that lie in memory, read at a place -/
theorem wordsAt {w : World} {B : Nat} {v : Value} {l : List W30} (h : w.ownsRow B 9 1 v l.length (l.map (fun x => Value.string x.1))) {i : Nat} (hi : i < l.length) :
    ∃ g cap, v = .slice (some ⟨g, 0, none⟩) l.length cap ∧ l.length ≤ cap ∧ cap ≤ maxLen ∧ w.cell? ⟨g, i, none⟩ = some (.string l[i].1) := by
  have e : l.map (fun x => Value.string x.1) = (l.map (fun x => x.1)).map Value.string := by rw [List.map_map]; rfl
  have el : l.length = (l.map (fun x : W30 => x.1)).length := (List.length_map ..).symm
  rw [e, el] at h
  obtain ⟨g, cap, h1, h2, h3, h4⟩ := words_get h (i := i) (by rw [List.length_map]; exact hi)
  refine ⟨g, cap, by rw [el]; exact h1, by rw [el]; exact h2, h3, ?_⟩
  rw [h4]; simp
theorem words_form {w : World} {B : Nat} {v : Value} {l : List W30} (h : w.ownsRow B 9 1 v l.length (l.map (fun x => Value.string x.1))) : ∃ a cap, v = .slice a l.length cap := by
  rcases h.2 with ⟨hv, h0⟩ | ⟨g, cap, cur, hv, _⟩
  · exact ⟨none, 0, by rw [h0]; exact hv⟩
  · exact ⟨_, _, hv⟩
end Go.Proofs.Ytfkkhfiiokhnaae
namespace Go.Proofs.Ytfkkhfiiokhnaae
open Go.RowKit

/-- the model's l1Max -/
theorem l1Max_anyW (a b : Int) (w : World) : Calls Try.prog 51 #[.int .i64 a, .int .i64 b] w fun e w' => e = .returned (.int .i64 (max a b)) ∧ w' = w := by
  by_cases h : b < a
  · have e : max a b = a := by omega
    rw [e]
    go_enter Try.func51, Try.ntmps51
    go_wp2
    go_ret
    exact ⟨rfl, rfl⟩
  · have e : max a b = b := by omega
    rw [e]
    go_enter Try.func51, Try.ntmps51
    go_wp2
    go_ret
    exact ⟨rfl, rfl⟩
theorem leastOf_take {l : List W30} {k : Nat} (h : k < l.length) : leastOf (l.take (k + 1)) = max (leastOf (l.take k)) l[k].1.size := by
  rw [List.take_succ_eq_append_getElem h, leastOf_snoc]

set_option maxRecDepth 100000 in
set_option maxHeartbeats 1000000 in
theorem specTxtLeast (s : ByteArray) (hs : s.size ≤ maxLen) (w : World) :
    Calls Try.prog 73 #[.string s] w fun e w' => e = .returned (.int .i64 (leastOf (wordsW s))) ∧ Below w.heap.size w w' := by
  have hlen := wordsW_len s
  have HW := Hid.intro (specTxtWords s hs)
  generalize wordsW s = l at HW hlen ⊢
  go_enter Try.func73, Try.ntmps73
  go_wp2_with fail
  refine (HW.out _).mono ?_
  rintro e w1 ⟨v, rfl, hv, hb⟩
  have HV := Hid.intro hv
  have HB := Hid.intro hb
  obtain ⟨a, cap, rfl⟩ := words_form hv
  clear hv hb
  go_wp2_with fail
  go_loop [4, 5] (fun n i => ∃ k : Nat, k ≤ l.length ∧ i = .int .i64 k ∧ n = .int .i64 (leastOf (l.take k))) (fun _ i => l.length - (intOf i).toNat)
  case atStart => exact ⟨0, Nat.zero_le _, rfl, rfl⟩
  case round =>
    obtain ⟨k, hk, rfl, rfl⟩ := hrel
    by_cases hlt : k < l.length
    · obtain ⟨g, cap', e', h1, h2, hx⟩ := wordsAt HV.out hlt
      simp only [Value.slice.injEq, true_and] at e'
      obtain ⟨rfl, rfl⟩ := e'
      have HS := Hid.intro (leastOf_take hlt)
      have h3 := l[k].2
      have h4 := leastOf_le (l.take k)
      generalize l[k] = x at hx HS h3
      unfold maxLen at h2
      go_wp2_with (go_at_call 51; refine (l1Max_anyW _ _ _).mono ?_; rintro e w' ⟨rfl, rfl⟩)
      go_round
      case rel => exact ⟨k + 1, by omega, by go_num, by rw [HS.out]; go_num⟩
      case measure => simp [intOf]; omega
    · obtain rfl : k = l.length := by omega
      go_wp2
      go_ret
      exact ⟨rfl, HB.out⟩
end Go.Proofs.Ytfkkhfiiokhnaae
