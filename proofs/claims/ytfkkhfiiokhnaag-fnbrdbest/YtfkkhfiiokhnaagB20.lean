/-
  PROVED HERE: the program's cellOf is a cell at its place in a drawn table; nothing that was in memory is turned. Also: which border is shown where two cells of a table meet, as a function of its grid. Also: lists of borders that a call owns; what meets, case by case. Also: DrawBrdBest draws a list of borders; nothing that was in memory is turned but the reader's own place. Also: the law FnBrdBest returns true at every code that lies in memory.
-/
import Derived.Test.YtfkkhfiiokhnaagB19
import Derived.Test.YtfkkhfiiokhnaagB17
import Derived.Test.YtfkkhfiiokhnaagB5
import Derived.Test.YtfkkhfiiokhnaagB6
import Derived.Test.YtfkkhfiiokhnaagB4
import Derived.Test.YtfkkhfiiokhnaagB9
import Derived.Test.YtfkkhfiiokhnaagB12
import Derived.Deep.DeepCutAuto
import Derived.Deep.RegionWith
import Derived.Deep.QuietTactic
import Derived.BigQuiet
import Derived.Laws.StructEq
namespace Go.Proofs.Ytfkkhfiiokhnaag
open Go.RowKit Go.BigFrame

/-- a cell of a grid, as it stands in its table -/
def cellAt (t : T) (x : GC) : C := (t.rows.getD x.row.toNat dR).cells.getD x.ins.toNat dC
set_option maxRecDepth 100000 in
set_option maxHeartbeats 2000000 in
theorem implcellOf (ac ar : Option Addr) (cc cr : Nat) (t : T) (x : GC) {C : Nat} (hx : Cel t C x) (w : World) {z : Nat} (hr : RowsAt w z (.slice ar t.rows.length cr) t.rows) :
    Calls Try.prog 84 #[.agg #[.slice ac t.cols.length cc, .int .i64 t.head, .int .i64 t.foot, .slice ar t.rows.length cr, .int .i64 t.gap], .agg #[.int .i64 x.row, .int .i64 x.col, .int .i64 x.rows, .int .i64 x.cols, .int .i64 x.ins]] w fun e w' => e = .returned (.agg #[.string (cellAt t x).s, .int .i64 (cellAt t x).c, .int .i64 (cellAt t x).r, .int .i64 (cellAt t x).a1, .int .i64 (cellAt t x).b1, .int .i64 (cellAt t x).a2, .int .i64 (cellAt t x).b2, .int .i64 (cellAt t x).a3, .int .i64 (cellAt t x).b3, .int .i64 (cellAt t x).a4, .int .i64 (cellAt t x).b4]) ∧ (cellAt t x).s.size ≤ maxLen ∧ Below w.heap.size w w' := by
  obtain ⟨rn, jn, cn, mn, e1, e2, e3, e4, h1, h2, h3, h4, h5⟩ := hx.ex
  have HTx : Hid (cellAt t x = (t.rows.getD rn dR).cells.getD jn dC) := by rw [Hid, cellAt, e1, e2, Int.toNat_natCast, Int.toNat_natCast]
  have hmx : Try.prog.follows .mixedOrders = true := by kernel_rfl
  have K1 := k_alloc (Below.refl w.heap.size w) (.cells #[.slice ac t.cols.length cc, .int .i64 t.head, .int .i64 t.foot, .slice ar t.rows.length cr, .int .i64 t.gap] 49)
  have X1 := newestB w (.cells #[.slice ac t.cols.length cc, .int .i64 t.head, .int .i64 t.foot, .slice ar t.rows.length cr, .int .i64 t.gap] 49)
  have hs1 : (w.alloc (.cells #[.slice ac t.cols.length cc, .int .i64 t.head, .int .i64 t.foot, .slice ar t.rows.length cr, .int .i64 t.gap] 49)).heap.size = w.heap.size + 1 := by simp
  rw [e1, e2]
  clear e1 e2 e3 e4
  go_enter Try.func84, Try.ntmps84
  go_upto_region 1 with fail
  have K2 := k_alloc K1 (.cells #[.int .i64 (rn : Int), .int .i64 x.col, .int .i64 x.rows, .int .i64 x.cols, .int .i64 (jn : Int)] 27)
  have X2 := newestB (w.alloc (.cells #[.slice ac t.cols.length cc, .int .i64 t.head, .int .i64 t.foot, .slice ar t.rows.length cr, .int .i64 t.gap] 49)) (.cells #[.int .i64 (rn : Int), .int .i64 x.col, .int .i64 x.rows, .int .i64 x.cols, .int .i64 (jn : Int)] 27)
  have X1' := (Below.heap_alloc (w.alloc (.cells #[.slice ac t.cols.length cc, .int .i64 t.head, .int .i64 t.foot, .slice ar t.rows.length cr, .int .i64 t.gap] 49)) (.cells #[.int .i64 (rn : Int), .int .i64 x.col, .int .i64 x.rows, .int .i64 x.cols, .int .i64 (jn : Int)] 27) w.heap.size (by omega)).trans X1
  rw [hs1] at X2
  have hs2 : ((w.alloc (.cells #[.slice ac t.cols.length cc, .int .i64 t.head, .int .i64 t.foot, .slice ar t.rows.length cr, .int .i64 t.gap] 49)).alloc (.cells #[.int .i64 (rn : Int), .int .i64 x.col, .int .i64 x.rows, .int .i64 x.cols, .int .i64 (jn : Int)] 27)).heap.size = w.heap.size + 2 := by simp
  generalize (w.alloc (.cells #[.slice ac t.cols.length cc, .int .i64 t.head, .int .i64 t.foot, .slice ar t.rows.length cr, .int .i64 t.gap] 49)).alloc (.cells #[.int .i64 (rn : Int), .int .i64 x.col, .int .i64 x.rows, .int .i64 x.cols, .int .i64 (jn : Int)] 27) = W2 at K2 X2 X1' hs2 ⊢
  have K3 := k_alloc K2 (.cells #[.string ⟨#[]⟩, .int .i64 0, .int .i64 0, .int .i64 0, .int .i64 0, .int .i64 0, .int .i64 0, .int .i64 0, .int .i64 0, .int .i64 0, .int .i64 0] 89)
  have X3 := newestB W2 (.cells #[.string ⟨#[]⟩, .int .i64 0, .int .i64 0, .int .i64 0, .int .i64 0, .int .i64 0, .int .i64 0, .int .i64 0, .int .i64 0, .int .i64 0, .int .i64 0] 89)
  have X1'' := (Below.heap_alloc W2 (.cells #[.string ⟨#[]⟩, .int .i64 0, .int .i64 0, .int .i64 0, .int .i64 0, .int .i64 0, .int .i64 0, .int .i64 0, .int .i64 0, .int .i64 0, .int .i64 0] 89) w.heap.size (by omega)).trans X1'
  have X2' := (Below.heap_alloc W2 (.cells #[.string ⟨#[]⟩, .int .i64 0, .int .i64 0, .int .i64 0, .int .i64 0, .int .i64 0, .int .i64 0, .int .i64 0, .int .i64 0, .int .i64 0, .int .i64 0] 89) (w.heap.size + 1) (by omega)).trans X2
  rw [show W2.heap.size = w.heap.size + 1 + 1 by omega] at X3
  generalize W2.alloc (.cells #[.string ⟨#[]⟩, .int .i64 0, .int .i64 0, .int .i64 0, .int .i64 0, .int .i64 0, .int .i64 0, .int .i64 0, .int .i64 0, .int .i64 0, .int .i64 0] 89) = W at K3 X3 X1'' X2' ⊢
  clear K1 X1 hs1 K2 X2 X1' hs2
  obtain ⟨rb, roff, rcap, re, rc1, rc2, rbl, u, hu0, _, hu⟩ := At.get (hr.kept K3) h1
  simp only [Value.slice.injEq, true_and] at re
  obtain ⟨rfl, rfl⟩ := re
  obtain ⟨qb, qoff, qcap, qe, qc1, qc2, qbl, hv, hsl⟩ := At.get hu h2
  subst qe
  obtain ⟨v0, v1, v2, v3, v4, v5, v6, v7, v8, v9, v10⟩ := hv
  have l1 : w.heap.size < W.heap.size := (Array.getElem?_eq_some_iff.1 X1'').1
  have l2 : w.heap.size + 1 < W.heap.size := (Array.getElem?_eq_some_iff.1 X2').1
  have hne := bw_some W
  have m0 := bw_cell (a := ⟨w.heap.size, 3, none⟩) l1 (cellB (p := 3) X1'')
  have m1 := bw_cell (a := ⟨w.heap.size + 1, 0, none⟩) l2 (cellB (p := 0) X2')
  have m2 := bw_cell (a := ⟨w.heap.size + 1, 4, none⟩) l2 (cellB (p := 4) X2')
  have m3 := bw_cell rbl hu0
  have n0 := bw_cell qbl v0
  have n1 := bw_cell qbl v1
  have n2 := bw_cell qbl v2
  have n3 := bw_cell qbl v3
  have n4 := bw_cell qbl v4
  have n5 := bw_cell qbl v5
  have n6 := bw_cell qbl v6
  have n7 := bw_cell qbl v7
  have n8 := bw_cell qbl v8
  have n9 := bw_cell qbl v9
  have n10 := bw_cell qbl v10
  have HSZ : Hid ((cellAt t x).s.size ≤ maxLen) := by rw [Hid, HTx.out]; exact hsl
  have HK := Hid.intro K3
  have HX3 := Hid.intro X3
  unfold maxLen at rc2 qc2
  generalize (t.rows.getD rn dR).cells.getD jn dC = y at *
  generalize (t.rows.getD rn dR).cells.length = rl at h2 m3 qc1
  clear hu hu0 hr h3 h4 h5 hx K3 X3 X1'' X2' v0 v1 v2 v3 v4 v5 v6 v7 v8 v9 v10 hsl
  refine wp_region_last 11 hmx (by rfl) (by rfl) (by kernel_rfl) (by kernel_rfl) ?_
  simp only [List.take_succ_cons, List.take_zero]
  repeat (go_big_quiet_step (fail))
  refine wpQuiet_nil ?_
  intro W5 hw'
  obtain ⟨⟨Wx, hW5⟩, hw''⟩ := hw'
  subst hw''
  have l3 : w.heap.size + 1 + 1 < W.heap.size := (Array.getElem?_eq_some_iff.1 HX3.out).1
  have X5 := (hW5.block _ l3).trans HX3.out
  obtain ⟨⟨c0, c1, c2, c3, c4, c5, c6, c7, c8, c9, c10⟩, f0, f1, f2, f3, f4, f5, f6, f7, f8, f9, f10⟩ := cells11 X5
  have HK5 := Hid.intro (k_trans HK.out hW5)
  clear m0 m1 m2 m3 n0 n1 n2 n3 n4 n5 n6 n7 n8 n9 n10 hne hW5 X5
  rw [if_pos (by rfl)]
  go_simp
  go_wp2
  exact bodyPost_ret (v := .agg #[.string y.s, .int .i64 y.c, .int .i64 y.r, .int .i64 y.a1, .int .i64 y.b1, .int .i64 y.a2, .int .i64 y.b2, .int .i64 y.a3, .int .i64 y.b3, .int .i64 y.a4, .int .i64 y.b4]) (by simp [results, Try.results84, go_sem, c0, c1, c2, c3, c4, c5, c6, c7, c8, c9, c10]) rfl ⟨by rw [HTx.out], HSZ.out, HK5.out.trans ((st11_bk W5 (w.heap.size + 1 + 1) (.string y.s) (.int .i64 y.c) (.int .i64 y.r) (.int .i64 y.a1) (.int .i64 y.b1) (.int .i64 y.a2) (.int .i64 y.b2) (.int .i64 y.a3) (.int .i64 y.b3) (.int .i64 y.a4) (.int .i64 y.b4)).below HK5.out.size (by omega))⟩
end Go.Proofs.Ytfkkhfiiokhnaag
namespace Go.Proofs.Ytfkkhfiiokhnaag
open Go.RowKit

/-- the number of the cell that has a slot, or -1 -/
def atN (t : T) (r c : Int) : Int := findTo (holdsB r c) (gOf t).cells
/-- that cell, or none -/
def cellN (t : T) (i : Int) : C := if i < 0 then dC else cellAt t ((gOf t).cells.getD i.toNat dG)
def meetF (x y : Fr) : Fr := if x.c = y.c then dF else if x.c < 0 then y else if y.c < 0 then x else if btF y x = true then y else x
def acrossF (t : T) (r c : Int) : Fr := meetF ⟨(cellN t (atN t (r - 1) c)).a3, (cellN t (atN t (r - 1) c)).b3, atN t (r - 1) c⟩ ⟨(cellN t (atN t r c)).a1, (cellN t (atN t r c)).b1, atN t r c⟩
def besideF (t : T) (r c : Int) : Fr := meetF ⟨(cellN t (atN t r (c - 1))).a2, (cellN t (atN t r (c - 1))).b2, atN t r (c - 1)⟩ ⟨(cellN t (atN t r c)).a4, (cellN t (atN t r c)).b4, atN t r c⟩
theorem best_none : bestF [] = dF := rfl
theorem best_one (x : Fr) : bestF [x] = x := rfl
theorem best_two (x y : Fr) : bestF [x, y] = if btF y x = true then y else x := rfl
end Go.Proofs.Ytfkkhfiiokhnaag
namespace Go.Proofs.Ytfkkhfiiokhnaag
open Go.RowKit

def frVs (x : Fr) : List Value := [.int .i64 x.s, .int .i64 x.w, .int .i64 x.c]
theorem infoFr : (Try.prog.info? 42).map (fun i => (i.zero, i.size, i.bytes)) = some (some (Value.agg #[.int .i64 0, .int .i64 0, .int .i64 0]), 3, 24) := by kernel_rfl
theorem frs_of {w : World} {base : Nat} {v : Value} {l : List Fr} (h : w.ownsRow base 42 3 v l.length (l.flatMap frVs)) : FrsAt w base v l := by
  rcases h.2 with ⟨rfl, hn⟩ | ⟨g, cap, cur, rfl, hg, hc, h3, h4, _⟩
  · exact ⟨none, 0, by rw [hn], by omega, by unfold maxLen; omega, fun i hi => by omega⟩
  · refine ⟨_, cap, rfl, h3, h4, fun i hi => ⟨g, 0, rfl, (Array.getElem?_eq_some_iff.1 hc).1, hg, ?_⟩⟩
    have hx : ∀ j, j < 3 → w.cell? ⟨g, i * 3 + j, none⟩ = (frVs l[i])[j]? := fun j hj => by
      have e := flat_get frVs 3 (fun _ => rfl) l i hi j hj
      rw [row_cell h (u := (frVs l[i])[j]'(by show j < 3; exact hj)) (by rw [e]; simp)]
      simp
    have e : l.getD i dF = l[i] := by simp [List.getD, hi]
    dsimp only
    rw [e, Nat.zero_add]
    exact ⟨hx 0 (by omega), hx 1 (by omega), hx 2 (by omega)⟩
end Go.Proofs.Ytfkkhfiiokhnaag
namespace Go.Proofs.Ytfkkhfiiokhnaag
open Go.RowKit

def OwnF (w : World) (base : Nat) (v : Value) (l : List Fr) : Prop := w.ownsRow base 42 3 v l.length (l.flatMap frVs)
theorem OwnF.bk {r : Nat} {w w' : World} {base : Nat} {v : Value} {l : List Fr} (h : OwnF w base v l) (k : Bk r w w') (hr : r < base) : OwnF w' base v l :=
  ⟨h.1, h.2.elim Or.inl (fun ⟨g, cap, cur, hv, hg, hc, q⟩ => Or.inr ⟨g, cap, cur, hv, hg, (k.block g (Array.getElem?_eq_some_iff.1 hc).1 (by omega)).trans hc, q⟩)⟩
/-- what an append of one border leaves -/
theorem app_brd {w w3 w4 : World} {r B : Nat} {l : List Fr} {x : Fr} {o v' : Value} {T : TypeId} {arr : Array Value} (hr : r < w.heap.size) (hO : OwnF w3 w.heap.size o l) (hR : Rd w3 r B) (hB : Bk r w w3)
    (hg : (w3.alloc (.cells arr T)).grownBy w4 o.ownBlock) (hown : w4.ownsRow w.heap.size 42 3 v' (l.length + 1) (l.flatMap frVs ++ frVs x)) :
    Rd w4 r B ∧ Bk r w w4 ∧ OwnF w4 w.heap.size v' (l ++ [x]) := by
  have hlt := hR.lt
  have hA := hB.alloc (.cells arr T)
  refine ⟨?_, ?_, by unfold OwnF; rw [List.length_append, List.flatMap_append]; simpa using hown⟩
  · refine (hR.alloc (.cells arr T)).keep (fun k hk => hg.block k (by simp; omega) (fun hb => ?_))
    have := (hO.lt k hb.symm).1
    omega
  · refine ⟨hg.os.trans hA.os, hg.tape.trans hA.tape, hg.output.trans hA.output, Nat.le_trans hA.size hg.size, fun k hk hkr => (hg.block k (Nat.lt_of_lt_of_le hk hA.size) (fun hb => ?_)).trans (hA.block k hk hkr)⟩
    have := (hO.lt k hb.symm).1
    omega

set_option maxRecDepth 100000 in
set_option maxHeartbeats 1000000 in
theorem drawBrdBest_any (a : Option Addr) (len cap : Nat) (w0 : World) (h : IsCode w0 a len cap) :
    Calls Try.prog 18 #[.slice a len cap] w0 fun e w' => ∃ (aa : Option Addr) (cc : Nat) (l : List Fr), e = .returned (.slice aa l.length cc) ∧ l.length ≤ 4 ∧ FrsAt w' w0.heap.size (.slice aa l.length cc) l ∧ Below w0.heap.size w0 w' := by
  obtain ⟨i0, hi, hz0, hz1, hz2⟩ := info_parts infoFr
  have HC := Hid.intro h
  clear h
  go_enter Try.func18, Try.ntmps18
  go_wp2_with fail
  refine (open_any _ _ _ _ HC.out).mono ?_
  rintro e w ⟨rfl, hR1, hb1⟩
  have hr := hR1.lt
  have HB0 := Hid.intro hb1
  have hz := hb1.size
  have H := Hid.intro hR1
  clear hb1 hR1 HC
  go_wp2_with fail
  refine (pick_any _ 0 _ _ (H.out.alloc _) (by omega)).mono ?_
  rintro e w2 ⟨m0, rfl, hm0, hR2, hb2⟩
  obtain ⟨m1, m2⟩ := hm0 (by omega)
  obtain ⟨M, rfl⟩ := Int.eq_ofNat_of_zero_le m1
  have O2 : Hid (OwnF w2 w.heap.size (.slice (some ⟨w.heap.size, 0, none⟩) 0 0) []) := OwnF.bk (l := []) (World.ownsRow_made (base := w.heap.size) (e := 42) (size := 3) w #[] 0 (Nat.le_refl _) (Nat.zero_le _) rfl) hb2 hr
  have R2 := Hid.intro hR2
  have K2 := Hid.intro (((Bk.refl w0.heap.size w).alloc (.cells #[] 42)).trans hb2)
  clear hR2 hb2 hm0 m1
  go_wp2_with fail
  go_loopw [4, 5] (fun o q W => ∃ (m : Nat) (l : List Fr), q = .int .i64 m ∧ m + l.length ≤ 4 ∧ Hid (OwnF W w.heap.size o l) ∧ Hid (Rd W w0.heap.size (0 + 1 + 8 * l.length)) ∧ Hid (Bk w0.heap.size w W)) (fun _ q _ => (intOf q).toNat)
  case atStart => exact ⟨M, [], rfl, by simp; omega, O2.out, R2.out, K2.out⟩
  case round =>
    obtain ⟨m, l, rfl, hms, HO, HR, HB⟩ := hrel
    by_cases hm : 0 < m
    · have hm' : (0 : Int) < (m : Int) := by omega
      obtain ⟨oa, oc, rfl, _⟩ := row_form HO.out
      go_wp2_with fail
      refine (l20Brd_any _ _ _ (by omega) _ HR.out (by omega)).mono ?_
      rintro e w4 ⟨x, y, rfl, hR4, hb4⟩
      have HR4 := Hid.intro hR4
      have HK4 := Hid.intro hb4
      clear hb4 hR4
      go_wp2_with fail
      refine (pick_any _ _ _ _ HR4.out (by omega)).mono ?_
      rintro e w6 ⟨u, rfl, hk7, hR6, hb6⟩
      obtain ⟨ua, ub⟩ := hk7 (by omega)
      have hK6 := HK4.out.trans hb6
      have hO6 := HO.out.bk hK6 hr
      have hB6 := HB.out.trans hK6
      have hsz := hB6.size
      clear hb6 hk7 HR4 HK4 hK6
      have hO6' : w6.ownsRow w.heap.size 42 3 (.slice oa l.length oc) l.length (l.flatMap frVs) := hO6
      go_wp2_with (at_builtin; refine wpList_append_own _ rfl _ _ 39 rfl w.heap.size 42 i0 _ 3 24 Try.underlying39 hi hz0 hz1 hz2 rfl (by decide) _ _ _ rfl (hO6'.alloc _) ⟨w6.heap.size, 0, none⟩ 1 1 (frVs ⟨x, y, u - 1⟩) rfl rfl (news_at (newestB _ _)) (by simp [frVs, Value.oneCell']) (by unfold maxLen; omega) (by omega) (by simp; omega) ?_)
      intro v' w7 hown' hgrow' _
      obtain ⟨hR7, hB7, hO7⟩ := app_brd (x := ⟨x, y, u - 1⟩) hr hO6 hR6 hB6 hgrow' hown'
      have HR7 : Hid (Rd w7 w0.heap.size (0 + 1 + 8 * (l ++ [(⟨x, y, u - 1⟩ : Fr)]).length)) := hR7.mono (by simp; omega)
      have HB7 := Hid.intro hB7
      have HO7 := Hid.intro hO7
      obtain ⟨g', cap', rfl⟩ := Joins.ownsRow_form hown' (by omega)
      clear hown' hgrow' hO6 hO6' hB6 hR6 hR7 hB7 hO7
      have hms4 : (m - 1) + (l ++ [(⟨x, y, u - 1⟩ : Fr)]).length ≤ 4 := by simp; omega
      have hle : (l ++ [(⟨x, y, u - 1⟩ : Fr)]).length = l.length + 1 := by simp
      have HL := Hid.intro hle
      clear hle
      generalize l ++ [(⟨x, y, u - 1⟩ : Fr)] = l2 at *
      go_wp2
      go_roundw
      case rel => exact ⟨m - 1, l2, by go_num, hms4, by first | exact HO7 | (rw [← HL.out]; exact HO7), HR7, HB7⟩
      case measure => simp [intOf]; omega
    · obtain rfl : m = 0 := by omega
      obtain ⟨aa, cc, rfl, _⟩ := row_form HO.out
      have HF : Hid (FrsAt wr w0.heap.size (.slice aa l.length cc) l) := (frs_of HO.out).base hz
      have HK : Hid (Below w0.heap.size w0 wr) := HB0.out.trans (HB.out.below (by omega) (by omega))
      go_wp2
      go_ret
      exact ⟨aa, cc, l, rfl, by omega, HF.out, HK.out⟩
end Go.Proofs.Ytfkkhfiiokhnaag
namespace Go.Proofs.Ytfkkhfiiokhnaag
open Go.RowKit Go.BigFrame

/-- the list and the best one in its box, all along -/
structure SB (w : World) (xb : Nat) (a : Option Addr) (c : Nat) (l : List Fr) (x : Fr) (W : World) : Prop where
  b : Below w.heap.size w W
  l : FrsAt W w.heap.size (.slice a l.length c) l
  x : W.heap[xb]? = some (.cells #[.int .i64 x.s, .int .i64 x.w, .int .i64 x.c] 42)
theorem SB.kept {w W W' : World} {xb : Nat} {a : Option Addr} {c : Nat} {l : List Fr} {x : Fr} (h : SB w xb a c l x W) (hb : Below W.heap.size W W') : SB w xb a c l x W' :=
  ⟨h.b.trans (hb.mono h.b.size), h.l.kept hb, (hb.block xb (Array.getElem?_eq_some_iff.1 h.x).1).trans h.x⟩

set_option maxRecDepth 100000 in
set_option maxHeartbeats 2000000 in
theorem lawBrdBest_walk (A : Option Addr) (len cap : Nat) (hlen : len ≤ 1048576) (w : World) (h : IsCode w A len cap) :
    Calls Try.prog 5 #[.slice A len cap] w fun e w' => e = .returned (.bool true) ∧ Below w.heap.size w w' := by
  have hl : ¬ (1048576 : Int) < (len : Int) := by omega
  have hmx : Try.prog.follows .mixedOrders = true := by kernel_rfl
  have HD := Hid.intro h
  clear h
  go_enter Try.func5, Try.ntmps5
  go_wp2_with fail
  refine (drawBrdBest_any _ _ _ _ HD.out).mono ?_
  rintro e w1 ⟨a, c, l, rfl, hl4, hF1, hb1⟩
  have HF1 := Hid.intro hF1
  have HB1 := Hid.intro hb1
  have HP := Hid.intro (best_place l)
  have HE : Hid (l.length = 0 → bestF l = dF) := fun h0 => by rw [List.eq_nil_of_length_eq_zero h0]; rfl
  clear hF1 hb1 HD
  go_wp2_with fail
  refine (implBrdBest _ l (by omega) _ HF1.out).mono ?_
  have KS := Hid.intro (fun (W : World) (h : FrsAt W w.heap.size (.slice a l.length c) l) => specBrdBest _ l (by omega) W h)
  generalize bestF l = x at HP HE KS ⊢
  rintro e w2 ⟨rfl, hb2⟩
  have HS2 : Hid (SB w w2.heap.size a c l x (w2.alloc (.cells #[.int .i64 x.s, .int .i64 x.w, .int .i64 x.c] 42))) := ⟨k_alloc (k_trans HB1.out hb2) _, (HF1.out.kept hb2).kept (k_alloc (Below.refl _ _) _), newestB _ _⟩
  clear hb2 HF1 HB1
  go_upto_region 5 with fail
  generalize w2.alloc (.cells #[.int .i64 x.s, .int .i64 x.w, .int .i64 x.c] 42) = W2 at HS2 ⊢
  generalize w2.heap.size = xb at HS2 ⊢
  have hne := bw_some W2
  have hxb := (Array.getElem?_eq_some_iff.1 HS2.out.x).1
  have KB := Hid.intro (fun (p : BW W2) => bw_of (KS.out p.u (HS2.out.kept p.h).l))
  have m0 := bw_cell (a := ⟨xb, 0, none⟩) hxb (cellB (p := 0) HS2.out.x)
  have m1 := bw_cell (a := ⟨xb, 1, none⟩) hxb (cellB (p := 1) HS2.out.x)
  have m2 := bw_cell (a := ⟨xb, 2, none⟩) hxb (cellB (p := 2) HS2.out.x)
  refine wp_region_quiet_below hmx (by kernel_rfl) ?_
  repeat (go_big_quiet_step (first | (go_at_call 20; refine KB.out _)))
  refine wpQuiet_nil ?_
  intro W3 hw'
  obtain ⟨⟨Wx, hW3⟩, hw''⟩ := hw'
  subst hw''
  have HS3 := Hid.intro (HS2.out.kept hW3)
  clear KB KS m0 m1 m2 hne hxb hW3 HS2
  by_cases h0 : l.length = 0
  case pos =>
    obtain rfl : l = [] := List.eq_nil_of_length_eq_zero h0
    obtain rfl : x = dF := HE.out rfl
    clear HP HE h0
    obtain ⟨⟨n0, n1, n2⟩, _⟩ := cells3 HS3.out.x
    simp only [dF, List.length_nil] at n0 n1 n2 ⊢
    go_wp2_with fail
    refine (pwOk_any _).mono ?_
    rintro e w6 ⟨rfl, rfl⟩
    go_wp2
    go_ret
    exact ⟨rfl, HS3.out.b⟩
  case neg =>
    obtain ⟨q, hq, e1, e2, e3, e4⟩ := HP.out (by omega)
    have H1 := Hid.intro e1
    have H2 := Hid.intro e2
    have H3 := Hid.intro e3
    have H4 := Hid.intro e4
    clear e1 e2 e3 e4 HP HE
    have h0' : ((l.length : Int) == 0) = false := beq_eq_false_iff_ne.2 (by omega)
    have h1' : ¬ (l.length : Int) = 0 := by omega
    go_wp2_with fail
    go_loopw [5, 6] (fun s i W => ∃ k : Nat, k ≤ l.length ∧ i = .int .i64 k ∧ s = .int .i64 (if k ≤ q then -1 else (q : Int)) ∧ Hid (SB w xb a c l x W)) (fun _ i _ => l.length - (intOf i).toNat)
    case atStart => exact ⟨0, Nat.zero_le _, rfl, by rw [if_pos (Nat.zero_le _)], HS3⟩
    case round =>
      obtain ⟨k, hk, rfl, rfl, HSr⟩ := hrel
      by_cases hlt : k < l.length
      · obtain ⟨b, off, cap', e', hc1, hc2, hbl, hx0, hx1, hx2⟩ := At.get HSr.out.l hlt
        simp only [Value.slice.injEq, true_and] at e'
        obtain ⟨rfl, rfl⟩ := e'
        unfold maxLen at hc2
        have HN := Hid.intro (H4.out k hlt)
        have HQ : Hid (k < q → l.getD k dF ≠ x) := H2.out k
        have HQe : Hid (k = q → l.getD k dF = x) := fun e => by rw [e]; exact H1.out
        generalize l.getD k dF = p at hx0 hx1 hx2 HN HQ HQe
        have hlb := (Array.getElem?_eq_some_iff.1 HSr.out.x).1
        have hk0 : (0 : Int) ≤ (k : Int) := by omega
        have hkl : (k : Int) < (l.length : Int) := by omega
        have hne := bw_some wr
        have y0 := bw_cell (a := ⟨xb, 0, none⟩) hlb (cellB (p := 0) HSr.out.x)
        have y1 := bw_cell (a := ⟨xb, 1, none⟩) hlb (cellB (p := 1) HSr.out.x)
        have y2 := bw_cell (a := ⟨xb, 2, none⟩) hlb (cellB (p := 2) HSr.out.x)
        have q0 := bw_cell hbl hx0
        have q1 := bw_cell hbl hx1
        have q2 := bw_cell hbl hx2
        have KB : Hid (∀ (p1 : BW wr), Calls Try.prog 15 #[.agg #[.int .i64 p.s, .int .i64 p.w], .agg #[.int .i64 x.s, .int .i64 x.w]] p1.u fun e w'' => e = .returned (.bool false) ∧ ∃ p2 : BW wr, w'' = p2.u) := fun p1 => bw_of (by have k := implBrdBeats p.s p.w x.s x.w p1.u; rw [show beatsB p.s p.w x.s x.w = false from HN.out] at k; exact k)
        go_upto_region 13 with fail
        refine wp_region_quiet_below hmx (by kernel_rfl) ?_
        repeat (go_big_quiet_step (first | (go_at_call 15; refine KB.out _)))
        refine wpQuiet_nil ?_
        intro W5 hw'
        obtain ⟨⟨Wx, hW5⟩, hw''⟩ := hw'
        subst hw''
        have HS5 := Hid.intro (HSr.out.kept hW5)
        have HC := Hid.intro (And.intro hbl (And.intro hx0 (And.intro hx1 hx2)))
        clear KB hne y0 y1 y2 q0 q1 q2 hx0 hx1 hx2
        have x0 := (hW5.cell (p := ⟨b, _, none⟩) HC.out.1).trans HC.out.2.1
        have x1 := (hW5.cell (p := ⟨b, _, none⟩) HC.out.1).trans HC.out.2.2.1
        have x2 := (hW5.cell (p := ⟨b, _, none⟩) HC.out.1).trans HC.out.2.2.2
        have hbl5 : b < W5.heap.size := Nat.lt_of_lt_of_le HC.out.1 hW5.size
        obtain ⟨⟨n0, n1, n2⟩, _⟩ := cells3 HS5.out.x
        clear hW5 HC hbl HSr
        rcases Nat.lt_trichotomy k q with hkq | hkq | hkq
        · rw [if_pos (Nat.le_of_lt hkq)]
          have hpx := fr_ne (HQ.out hkq)
          have HI : Hid ((if k + 1 ≤ q then (-1 : Int) else (q : Int)) = -1) := by rw [Hid, if_pos (show k + 1 ≤ q from hkq)]
          clear HQ HQe HN
          by_cases c1 : p.s = x.s
          · have c1' : (p.s == x.s) = true := beq_iff_eq.2 c1
            by_cases c2 : p.w = x.w
            · have c2' : (p.w == x.w) = true := beq_iff_eq.2 c2
              have c3' : (p.c == x.c) = false := beq_eq_false_iff_ne.2 (fun e => hpx ⟨c1, c2, e⟩)
              clear c1 c2 hpx
              go_wp2_with fail
              go_quiet (fail)
              go_wp2
              go_roundw
              case rel => exact ⟨k + 1, by omega, by go_num, by rw [HI.out], HS5.out.kept (k_drewN (Below.refl _ _) nq)⟩
              case measure => simp [intOf]; omega
            · have c2' : (p.w == x.w) = false := beq_eq_false_iff_ne.2 c2
              clear c1 c2 hpx
              go_wp2_with fail
              go_quiet (fail)
              go_wp2
              go_roundw
              case rel => exact ⟨k + 1, by omega, by go_num, by rw [HI.out], HS5.out.kept (k_drewN (Below.refl _ _) nq)⟩
              case measure => simp [intOf]; omega
          · have c1' : (p.s == x.s) = false := beq_eq_false_iff_ne.2 c1
            clear c1 hpx
            go_wp2_with fail
            go_quiet (fail)
            go_wp2
            go_roundw
            case rel => exact ⟨k + 1, by omega, by go_num, by rw [HI.out], HS5.out.kept (k_drewN (Below.refl _ _) nq)⟩
            case measure => simp [intOf]; omega
        · obtain rfl : p = x := HQe.out hkq
          rw [if_pos (Nat.le_of_eq hkq)]
          have HI : Hid ((if k + 1 ≤ q then (-1 : Int) else (q : Int)) = (k : Int)) := by rw [Hid, if_neg (by omega), hkq]
          clear HQ HQe HN hkq
          go_wp2_with fail
          go_quiet (fail)
          go_wp2
          go_roundw
          case rel => exact ⟨k + 1, by omega, by go_num, by rw [HI.out], HS5.out.kept (k_drewN (Below.refl _ _) nq)⟩
          case measure => simp [intOf]; omega
        · rw [if_neg (by omega)]
          have hq0 : ¬ (q : Int) < 0 := by omega
          have HI : Hid ((if k + 1 ≤ q then (-1 : Int) else (q : Int)) = (q : Int)) := by rw [Hid, if_neg (by omega)]
          clear HQ HQe HN hkq
          go_wp2_with fail
          go_quiet (fail)
          go_wp2
          go_roundw
          case rel => exact ⟨k + 1, by omega, by go_num, by rw [HI.out], HS5.out.kept (k_drewN (Below.refl _ _) nq)⟩
          case measure => simp [intOf]; omega
      · obtain rfl : k = l.length := by omega
        rw [if_neg (by omega)]
        go_wp2_with fail
        go_loopw [7] (fun i W => ∃ j : Nat, j ≤ q ∧ i = .int .i64 j ∧ Hid (SB w xb a c l x W)) (fun i _ => q - (intOf i).toNat)
        case atStart => exact ⟨0, Nat.zero_le _, rfl, HSr⟩
        case round =>
          obtain ⟨j, hj, rfl, HSj⟩ := hrel
          rename World => Wj
          by_cases hlj : j < q
          · obtain ⟨b, off, cap', e', hc1, hc2, hbl, hx0, hx1, hx2⟩ := At.get HSj.out.l (show j < l.length by omega)
            simp only [Value.slice.injEq, true_and] at e'
            obtain ⟨rfl, rfl⟩ := e'
            unfold maxLen at hc2
            have HN := Hid.intro (H3.out j hlj)
            generalize l.getD j dF = p at hx0 hx1 hx2 HN
            have hlb := (Array.getElem?_eq_some_iff.1 HSj.out.x).1
            have hj0 : (0 : Int) ≤ (j : Int) := by omega
            have hjl : (j : Int) < (l.length : Int) := by omega
            have hjq : (j : Int) < (q : Int) := by omega
            have hne := bw_some Wj
            have y0 := bw_cell (a := ⟨xb, 0, none⟩) hlb (cellB (p := 0) HSj.out.x)
            have y1 := bw_cell (a := ⟨xb, 1, none⟩) hlb (cellB (p := 1) HSj.out.x)
            have q0 := bw_cell hbl hx0
            have q1 := bw_cell hbl hx1
            have KB : Hid (∀ (p1 : BW Wj), Calls Try.prog 15 #[.agg #[.int .i64 x.s, .int .i64 x.w], .agg #[.int .i64 p.s, .int .i64 p.w]] p1.u fun e w'' => e = .returned (.bool true) ∧ ∃ p2 : BW Wj, w'' = p2.u) := fun p1 => bw_of (by have k := implBrdBeats x.s x.w p.s p.w p1.u; rw [show beatsB x.s x.w p.s p.w = true from HN.out] at k; exact k)
            go_upto_region 20 with fail
            refine wp_region_quiet_below hmx (by kernel_rfl) ?_
            repeat (go_big_quiet_step (first | (go_at_call 15; refine KB.out _)))
            refine wpQuiet_nil ?_
            intro W5 hw'
            obtain ⟨⟨Wx, hW5⟩, hw''⟩ := hw'
            subst hw''
            have HS5 := Hid.intro (HSj.out.kept hW5)
            clear KB hne y0 y1 q0 q1 hx0 hx1 hx2 hW5
            go_wp2
            go_roundw
            case rel => exact ⟨j + 1, by omega, by go_num, HS5⟩
            case measure => simp [intOf]; omega
          · obtain rfl : j = q := by omega
            have hq0 : (0 : Int) ≤ (j : Int) := by omega
            go_wp2_with fail
            refine (pwOk_any _).mono ?_
            rintro e w6 ⟨rfl, rfl⟩
            go_wp2
            go_ret
            exact ⟨rfl, HSj.out.b⟩

theorem lawBrdBest (a : Option Addr) (len cap : Nat) (w : World) (h : IsCode w a len cap) :
    Calls Try.prog 5 #[.slice a len cap] w fun e w' => e = .returned (.bool true) ∧ Below w.heap.size w w' := by
  by_cases hl : len ≤ 1048576
  · exact lawBrdBest_walk a len cap hl w h
  · have hl' : (1048576 : Int) < (len : Int) := by omega
    clear h
    go_enter Try.func5, Try.ntmps5
    go_wp2
    go_ret
    exact ⟨rfl, Below.refl _ _⟩
end Go.Proofs.Ytfkkhfiiokhnaag
