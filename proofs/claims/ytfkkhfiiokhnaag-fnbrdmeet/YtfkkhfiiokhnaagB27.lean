/-
  PROVED HERE: the program's across and beside of a laid-out drawn table answer the border that is shown; nothing that was in memory is turned. Also: the program's layOut, BrdAcross and BrdBeside at a drawn table; nothing that was in memory is turned.
-/
import Derived.Test.YtfkkhfiiokhnaagB26
import Derived.Test.YtfkkhfiiokhnaagB21
import Derived.Deep.RegionWith
namespace Go.Proofs.Ytfkkhfiiokhnaag
open Go.RowKit

/-- eight cells of a block -/
theorem cells8 {w : World} {g : Nat} {x0 x1 x2 x3 x4 x5 x6 x7 : Value} {t : TypeId} (h : w.heap[g]? = some (.cells #[x0, x1, x2, x3, x4, x5, x6, x7] t)) :
    ∃ _ : (w.cell? ⟨g, 0, none⟩ = some x0 ∧ w.cell? ⟨g, 1, none⟩ = some x1 ∧ w.cell? ⟨g, 2, none⟩ = some x2 ∧ w.cell? ⟨g, 3, none⟩ = some x3 ∧ w.cell? ⟨g, 4, none⟩ = some x4 ∧ w.cell? ⟨g, 5, none⟩ = some x5 ∧ w.cell? ⟨g, 6, none⟩ = some x6 ∧ w.cell? ⟨g, 7, none⟩ = some x7), True :=
  ⟨⟨cellB h, cellB h, cellB h, cellB h, cellB h, cellB h, cellB h, cellB h⟩, trivial⟩
set_option maxRecDepth 100000 in
set_option maxHeartbeats 2000000 in
theorem implacross (ac ar ag : Option Addr) (cc cr cg : Nat) (t : T) (hD : Drawn t) (r c : Int) (hr : -1000 ≤ r ∧ r ≤ 1000) (hc : -1000 ≤ c ∧ c ≤ 1000) (w : World) {z zg : Nat} (hW : RowsAt w z (.slice ar t.rows.length cr) t.rows) (hG : GsAt w zg (.slice ag (gOf t).cells.length cg) (gOf t).cells) :
    Calls Try.prog 51 #[.agg #[.slice ac t.cols.length cc, .int .i64 t.head, .int .i64 t.foot, .slice ar t.rows.length cr, .int .i64 t.gap, .int .i64 (gOf t).rows, .int .i64 (gOf t).cols, .slice ag (gOf t).cells.length cg], .int .i64 r, .int .i64 c] w fun e w' => e = .returned (.agg #[.int .i64 (acrossF t r c).s, .int .i64 (acrossF t r c).w, .int .i64 (acrossF t r c).c]) ∧ Below w.heap.size w w' := by
  obtain ⟨W0, hW0⟩ : ∃ W0, (w.alloc (.cells #[.slice ac t.cols.length cc, .int .i64 t.head, .int .i64 t.foot, .slice ar t.rows.length cr, .int .i64 t.gap, .int .i64 (gOf t).rows, .int .i64 (gOf t).cols, .slice ag (gOf t).cells.length cg] 77)).alloc (.cells #[.int .i64 0, .int .i64 0, .int .i64 0] 42) = W0 := ⟨_, rfl⟩
  have K0 : Below w.heap.size w W0 := by rw [← hW0]; exact k_alloc (k_alloc (Below.refl _ _) _) _
  have hz0 : W0.heap.size = w.heap.size + 2 := by rw [← hW0]; simp
  have X0 : W0.heap[w.heap.size]? = some (.cells #[.slice ac t.cols.length cc, .int .i64 t.head, .int .i64 t.foot, .slice ar t.rows.length cr, .int .i64 t.gap, .int .i64 (gOf t).rows, .int .i64 (gOf t).cols, .slice ag (gOf t).cells.length cg] 77) := by rw [← hW0]; exact more (newest _ _) _
  have X1 : W0.heap[w.heap.size + 1]? = some (.cells #[.int .i64 0, .int .i64 0, .int .i64 0] 42) := by rw [← hW0]; exact newest1 _ _ _
  have HX := Hid.intro (And.intro X0 X1)
  have HK0 := Hid.intro K0
  have HM := Hid.intro (And.intro (hW.kept K0) (hG.kept K0))
  have KA := Hid.intro (fun W (h : Below W0.heap.size W0 W) => implat ac ar ag cc cr cg t hD (r - 1) c (by unfold I64; omega) (by unfold I64; omega) W (HM.out.1.kept h) (HM.out.2.kept h))
  have KB := Hid.intro (fun W (h : Below W0.heap.size W0 W) => implat ac ar ag cc cr cg t hD r c (by unfold I64; omega) (by unfold I64; omega) W (HM.out.1.kept h) (HM.out.2.kept h))
  have HE : Hid (acrossF t r c = meetF ⟨(cellN t (atN t ((r - 1)) (c))).a3, (cellN t (atN t ((r - 1)) (c))).b3, atN t ((r - 1)) (c)⟩ ⟨(cellN t (atN t r c)).a1, (cellN t (atN t r c)).b1, atN t r c⟩) := rfl
  generalize cellN t (atN t ((r - 1)) (c)) = x at KA HE
  generalize atN t ((r - 1)) (c) = i at KA HE
  generalize cellN t (atN t r c) = y at KB HE
  generalize atN t r c = j at KB HE
  obtain ⟨⟨o0, o1, o2, o3, o4, o5, o6, o7⟩, _⟩ := cells8 X0
  clear hW hG K0 X0 X1 hz0 hD HM
  go_enter Try.func51, Try.ntmps51
  go_upto_region 1 with fail
  clear hW0
  go_wp2_with fail
  refine (KA.out _ (Below.refl _ _)).mono ?_
  rintro e w1 ⟨rfl, hb1⟩
  have hK1 := k_alloc hb1 (.cells #[.string x.s, .int .i64 x.c, .int .i64 x.r, .int .i64 x.a1, .int .i64 x.b1, .int .i64 x.a2, .int .i64 x.b2, .int .i64 x.a3, .int .i64 x.b3, .int .i64 x.a4, .int .i64 x.b4] 89)
  have HP1 := Hid.intro (newestB w1 (.cells #[.string x.s, .int .i64 x.c, .int .i64 x.r, .int .i64 x.a1, .int .i64 x.b1, .int .i64 x.a2, .int .i64 x.b2, .int .i64 x.a3, .int .i64 x.b3, .int .i64 x.a4, .int .i64 x.b4] 89))
  have HK1 := Hid.intro hK1
  clear hb1 o0 o1 o2 o3 o4 o5 o6 o7 KA
  go_upto_region 2 with fail
  generalize w1.alloc (.cells #[.string x.s, .int .i64 x.c, .int .i64 x.r, .int .i64 x.a1, .int .i64 x.b1, .int .i64 x.a2, .int .i64 x.b2, .int .i64 x.a3, .int .i64 x.b3, .int .i64 x.a4, .int .i64 x.b4] 89) = W1 at hK1 HP1 HK1 ⊢
  generalize w1.heap.size = p1 at HP1 ⊢
  have Y0 := (hK1.block _ (Array.getElem?_eq_some_iff.1 HX.out.1).1).trans HX.out.1
  obtain ⟨⟨o0, o1, o2, o3, o4, o5, o6, o7⟩, _⟩ := cells8 Y0
  go_wp2_with fail
  refine (KB.out _ HK1.out).mono ?_
  rintro e w2 ⟨rfl, hb2⟩
  have hK2 := k_alloc (k_trans HK1.out hb2) (.cells #[.string y.s, .int .i64 y.c, .int .i64 y.r, .int .i64 y.a1, .int .i64 y.b1, .int .i64 y.a2, .int .i64 y.b2, .int .i64 y.a3, .int .i64 y.b3, .int .i64 y.a4, .int .i64 y.b4] 89)
  have HP2 := Hid.intro (newestB w2 (.cells #[.string y.s, .int .i64 y.c, .int .i64 y.r, .int .i64 y.a1, .int .i64 y.b1, .int .i64 y.a2, .int .i64 y.b2, .int .i64 y.a3, .int .i64 y.b3, .int .i64 y.a4, .int .i64 y.b4] 89))
  have hp1 := (Array.getElem?_eq_some_iff.1 HP1.out).1
  have HP3 := Hid.intro ((Below.heap_alloc w2 (.cells #[.string y.s, .int .i64 y.c, .int .i64 y.r, .int .i64 y.a1, .int .i64 y.b1, .int .i64 y.a2, .int .i64 y.b2, .int .i64 y.a3, .int .i64 y.b3, .int .i64 y.a4, .int .i64 y.b4] 89) p1 (Nat.lt_of_lt_of_le hp1 hb2.size)).trans ((hb2.block p1 hp1).trans HP1.out))
  have HK2 := Hid.intro hK2
  clear hb2 o0 o1 o2 o3 o4 o5 o6 o7 KB HP1 Y0 hK1 HK1 hp1
  go_upto_region 3 with fail
  generalize w2.alloc (.cells #[.string y.s, .int .i64 y.c, .int .i64 y.r, .int .i64 y.a1, .int .i64 y.b1, .int .i64 y.a2, .int .i64 y.b2, .int .i64 y.a3, .int .i64 y.b3, .int .i64 y.a4, .int .i64 y.b4] 89) = W2 at hK2 HP2 HP3 HK2 ⊢
  generalize w2.heap.size = p2 at HP2 ⊢
  obtain ⟨⟨e0, e1, e2, e3, e4, e5, e6, e7, e8, e9, e10⟩, _⟩ := cells11 HP3.out
  obtain ⟨⟨f0, f1, f2, f3, f4, f5, f6, f7, f8, f9, f10⟩, _⟩ := cells11 HP2.out
  go_wp2_with fail
  refine (implmeet ⟨x.a3, x.b3, i⟩ ⟨y.a1, y.b1, j⟩ _).mono ?_
  rintro e w3 ⟨rfl, hb3⟩
  have hl1 : w.heap.size + 1 < W0.heap.size := (Array.getElem?_eq_some_iff.1 HX.out.2).1
  have X3 := (hb3.block (w.heap.size + 1) (Nat.lt_of_lt_of_le hl1 hK2.size)).trans ((hK2.block _ hl1).trans HX.out.2)
  obtain ⟨⟨d0, d1, d2⟩, g0, g1, g2⟩ := cells3 X3
  rw [← HE.out]
  have HK3 := Hid.intro (k_trans (k_trans HK0.out HK2.out) hb3)
  have HBl := Hid.intro (HK3.out.trans ((st3_bk w3 (w.heap.size + 1) (.int .i64 (acrossF t r c).s) (.int .i64 (acrossF t r c).w) (.int .i64 (acrossF t r c).c)).below HK3.out.size (by omega)))
  clear hb3 X3 HK3 hK2 HK2 HP2 HP3 e0 e1 e2 e3 e4 e5 e6 e7 e8 e9 e10 f0 f1 f2 f3 f4 f5 f6 f7 f8 f9 f10
  go_wp2
  exact bodyPost_ret (v := .agg #[.int .i64 (acrossF t r c).s, .int .i64 (acrossF t r c).w, .int .i64 (acrossF t r c).c]) (by simp [results, Try.results51, go_sem, d0, d1, d2]) rfl ⟨rfl, HBl.out⟩
set_option maxRecDepth 100000 in
set_option maxHeartbeats 2000000 in
theorem implbeside (ac ar ag : Option Addr) (cc cr cg : Nat) (t : T) (hD : Drawn t) (r c : Int) (hr : -1000 ≤ r ∧ r ≤ 1000) (hc : -1000 ≤ c ∧ c ≤ 1000) (w : World) {z zg : Nat} (hW : RowsAt w z (.slice ar t.rows.length cr) t.rows) (hG : GsAt w zg (.slice ag (gOf t).cells.length cg) (gOf t).cells) :
    Calls Try.prog 52 #[.agg #[.slice ac t.cols.length cc, .int .i64 t.head, .int .i64 t.foot, .slice ar t.rows.length cr, .int .i64 t.gap, .int .i64 (gOf t).rows, .int .i64 (gOf t).cols, .slice ag (gOf t).cells.length cg], .int .i64 r, .int .i64 c] w fun e w' => e = .returned (.agg #[.int .i64 (besideF t r c).s, .int .i64 (besideF t r c).w, .int .i64 (besideF t r c).c]) ∧ Below w.heap.size w w' := by
  obtain ⟨W0, hW0⟩ : ∃ W0, (w.alloc (.cells #[.slice ac t.cols.length cc, .int .i64 t.head, .int .i64 t.foot, .slice ar t.rows.length cr, .int .i64 t.gap, .int .i64 (gOf t).rows, .int .i64 (gOf t).cols, .slice ag (gOf t).cells.length cg] 77)).alloc (.cells #[.int .i64 0, .int .i64 0, .int .i64 0] 42) = W0 := ⟨_, rfl⟩
  have K0 : Below w.heap.size w W0 := by rw [← hW0]; exact k_alloc (k_alloc (Below.refl _ _) _) _
  have hz0 : W0.heap.size = w.heap.size + 2 := by rw [← hW0]; simp
  have X0 : W0.heap[w.heap.size]? = some (.cells #[.slice ac t.cols.length cc, .int .i64 t.head, .int .i64 t.foot, .slice ar t.rows.length cr, .int .i64 t.gap, .int .i64 (gOf t).rows, .int .i64 (gOf t).cols, .slice ag (gOf t).cells.length cg] 77) := by rw [← hW0]; exact more (newest _ _) _
  have X1 : W0.heap[w.heap.size + 1]? = some (.cells #[.int .i64 0, .int .i64 0, .int .i64 0] 42) := by rw [← hW0]; exact newest1 _ _ _
  have HX := Hid.intro (And.intro X0 X1)
  have HK0 := Hid.intro K0
  have HM := Hid.intro (And.intro (hW.kept K0) (hG.kept K0))
  have KA := Hid.intro (fun W (h : Below W0.heap.size W0 W) => implat ac ar ag cc cr cg t hD r (c - 1) (by unfold I64; omega) (by unfold I64; omega) W (HM.out.1.kept h) (HM.out.2.kept h))
  have KB := Hid.intro (fun W (h : Below W0.heap.size W0 W) => implat ac ar ag cc cr cg t hD r c (by unfold I64; omega) (by unfold I64; omega) W (HM.out.1.kept h) (HM.out.2.kept h))
  have HE : Hid (besideF t r c = meetF ⟨(cellN t (atN t (r) ((c - 1)))).a2, (cellN t (atN t (r) ((c - 1)))).b2, atN t (r) ((c - 1))⟩ ⟨(cellN t (atN t r c)).a4, (cellN t (atN t r c)).b4, atN t r c⟩) := rfl
  generalize cellN t (atN t (r) ((c - 1))) = x at KA HE
  generalize atN t (r) ((c - 1)) = i at KA HE
  generalize cellN t (atN t r c) = y at KB HE
  generalize atN t r c = j at KB HE
  obtain ⟨⟨o0, o1, o2, o3, o4, o5, o6, o7⟩, _⟩ := cells8 X0
  clear hW hG K0 X0 X1 hz0 hD HM
  go_enter Try.func52, Try.ntmps52
  go_upto_region 1 with fail
  clear hW0
  go_wp2_with fail
  refine (KA.out _ (Below.refl _ _)).mono ?_
  rintro e w1 ⟨rfl, hb1⟩
  have hK1 := k_alloc hb1 (.cells #[.string x.s, .int .i64 x.c, .int .i64 x.r, .int .i64 x.a1, .int .i64 x.b1, .int .i64 x.a2, .int .i64 x.b2, .int .i64 x.a3, .int .i64 x.b3, .int .i64 x.a4, .int .i64 x.b4] 89)
  have HP1 := Hid.intro (newestB w1 (.cells #[.string x.s, .int .i64 x.c, .int .i64 x.r, .int .i64 x.a1, .int .i64 x.b1, .int .i64 x.a2, .int .i64 x.b2, .int .i64 x.a3, .int .i64 x.b3, .int .i64 x.a4, .int .i64 x.b4] 89))
  have HK1 := Hid.intro hK1
  clear hb1 o0 o1 o2 o3 o4 o5 o6 o7 KA
  go_upto_region 2 with fail
  generalize w1.alloc (.cells #[.string x.s, .int .i64 x.c, .int .i64 x.r, .int .i64 x.a1, .int .i64 x.b1, .int .i64 x.a2, .int .i64 x.b2, .int .i64 x.a3, .int .i64 x.b3, .int .i64 x.a4, .int .i64 x.b4] 89) = W1 at hK1 HP1 HK1 ⊢
  generalize w1.heap.size = p1 at HP1 ⊢
  have Y0 := (hK1.block _ (Array.getElem?_eq_some_iff.1 HX.out.1).1).trans HX.out.1
  obtain ⟨⟨o0, o1, o2, o3, o4, o5, o6, o7⟩, _⟩ := cells8 Y0
  go_wp2_with fail
  refine (KB.out _ HK1.out).mono ?_
  rintro e w2 ⟨rfl, hb2⟩
  have hK2 := k_alloc (k_trans HK1.out hb2) (.cells #[.string y.s, .int .i64 y.c, .int .i64 y.r, .int .i64 y.a1, .int .i64 y.b1, .int .i64 y.a2, .int .i64 y.b2, .int .i64 y.a3, .int .i64 y.b3, .int .i64 y.a4, .int .i64 y.b4] 89)
  have HP2 := Hid.intro (newestB w2 (.cells #[.string y.s, .int .i64 y.c, .int .i64 y.r, .int .i64 y.a1, .int .i64 y.b1, .int .i64 y.a2, .int .i64 y.b2, .int .i64 y.a3, .int .i64 y.b3, .int .i64 y.a4, .int .i64 y.b4] 89))
  have hp1 := (Array.getElem?_eq_some_iff.1 HP1.out).1
  have HP3 := Hid.intro ((Below.heap_alloc w2 (.cells #[.string y.s, .int .i64 y.c, .int .i64 y.r, .int .i64 y.a1, .int .i64 y.b1, .int .i64 y.a2, .int .i64 y.b2, .int .i64 y.a3, .int .i64 y.b3, .int .i64 y.a4, .int .i64 y.b4] 89) p1 (Nat.lt_of_lt_of_le hp1 hb2.size)).trans ((hb2.block p1 hp1).trans HP1.out))
  have HK2 := Hid.intro hK2
  clear hb2 o0 o1 o2 o3 o4 o5 o6 o7 KB HP1 Y0 hK1 HK1 hp1
  go_upto_region 3 with fail
  generalize w2.alloc (.cells #[.string y.s, .int .i64 y.c, .int .i64 y.r, .int .i64 y.a1, .int .i64 y.b1, .int .i64 y.a2, .int .i64 y.b2, .int .i64 y.a3, .int .i64 y.b3, .int .i64 y.a4, .int .i64 y.b4] 89) = W2 at hK2 HP2 HP3 HK2 ⊢
  generalize w2.heap.size = p2 at HP2 ⊢
  obtain ⟨⟨e0, e1, e2, e3, e4, e5, e6, e7, e8, e9, e10⟩, _⟩ := cells11 HP3.out
  obtain ⟨⟨f0, f1, f2, f3, f4, f5, f6, f7, f8, f9, f10⟩, _⟩ := cells11 HP2.out
  go_wp2_with fail
  refine (implmeet ⟨x.a2, x.b2, i⟩ ⟨y.a4, y.b4, j⟩ _).mono ?_
  rintro e w3 ⟨rfl, hb3⟩
  have hl1 : w.heap.size + 1 < W0.heap.size := (Array.getElem?_eq_some_iff.1 HX.out.2).1
  have X3 := (hb3.block (w.heap.size + 1) (Nat.lt_of_lt_of_le hl1 hK2.size)).trans ((hK2.block _ hl1).trans HX.out.2)
  obtain ⟨⟨d0, d1, d2⟩, g0, g1, g2⟩ := cells3 X3
  rw [← HE.out]
  have HK3 := Hid.intro (k_trans (k_trans HK0.out HK2.out) hb3)
  have HBl := Hid.intro (HK3.out.trans ((st3_bk w3 (w.heap.size + 1) (.int .i64 (besideF t r c).s) (.int .i64 (besideF t r c).w) (.int .i64 (besideF t r c).c)).below HK3.out.size (by omega)))
  clear hb3 X3 HK3 hK2 HK2 HP2 HP3 e0 e1 e2 e3 e4 e5 e6 e7 e8 e9 e10 f0 f1 f2 f3 f4 f5 f6 f7 f8 f9 f10
  go_wp2
  exact bodyPost_ret (v := .agg #[.int .i64 (besideF t r c).s, .int .i64 (besideF t r c).w, .int .i64 (besideF t r c).c]) (by simp [results, Try.results52, go_sem, d0, d1, d2]) rfl ⟨rfl, HBl.out⟩
end Go.Proofs.Ytfkkhfiiokhnaag
namespace Go.Proofs.Ytfkkhfiiokhnaag
open Go.RowKit

/-- eight stores into a block -/
def st8 (w : World) (g : Nat) (y0 y1 y2 y3 y4 y5 y6 y7 : Value) : World := (((((((w.setCell ⟨g, 0, none⟩ y0).setCell ⟨g, 1, none⟩ y1).setCell ⟨g, 2, none⟩ y2).setCell ⟨g, 3, none⟩ y3).setCell ⟨g, 4, none⟩ y4).setCell ⟨g, 5, none⟩ y5).setCell ⟨g, 6, none⟩ y6).setCell ⟨g, 7, none⟩ y7
theorem st8_bk (w : World) (g : Nat) (y0 y1 y2 y3 y4 y5 y6 y7 : Value) : Bk g w (st8 w g y0 y1 y2 y3 y4 y5 y6 y7) :=
  (Bk.set (Bk.set (Bk.set (Bk.set (Bk.set (Bk.set (Bk.set (Bk.set (Bk.refl g w) (p := ⟨g, 0, none⟩) (.inl rfl) y0) (p := ⟨g, 1, none⟩) (.inl rfl) y1) (p := ⟨g, 2, none⟩) (.inl rfl) y2) (p := ⟨g, 3, none⟩) (.inl rfl) y3) (p := ⟨g, 4, none⟩) (.inl rfl) y4) (p := ⟨g, 5, none⟩) (.inl rfl) y5) (p := ⟨g, 6, none⟩) (.inl rfl) y6) (p := ⟨g, 7, none⟩) (.inl rfl) y7)
theorem free8 {w : World} {g : Nat} {a : Array Value} {t : TypeId} (h : w.heap[g]? = some (.cells a t)) : w.frozen? ⟨g, 0, none⟩ = false ∧ w.frozen? ⟨g, 1, none⟩ = false ∧ w.frozen? ⟨g, 2, none⟩ = false ∧ w.frozen? ⟨g, 3, none⟩ = false ∧ w.frozen? ⟨g, 4, none⟩ = false ∧ w.frozen? ⟨g, 5, none⟩ = false ∧ w.frozen? ⟨g, 6, none⟩ = false ∧ w.frozen? ⟨g, 7, none⟩ = false := ⟨freeB h, freeB h, freeB h, freeB h, freeB h, freeB h, freeB h, freeB h⟩
theorem GsAt.sinceB {w w' : World} {z : Nat} {v : Value} {gs : List GC} (h : GsAt w z v gs) (hs : w.heap.size ≤ w'.heap.size) (hb : ∀ k, z ≤ k → k < w.heap.size → w'.heap[k]? = w.heap[k]?) : GsAt w' z v gs :=
  At.mono h hs (Nat.le_refl _) (fun _ b _ _ hbl hz he => by
    have hc : ∀ q, w'.cell? ⟨b, q, none⟩ = w.cell? ⟨b, q, none⟩ := fun q => World.cell?_of_block (w := w) (a := ⟨b, q, none⟩) (hb b hz hbl)
    refine ⟨?_, he.2⟩
    have h1 := he.1
    unfold GIs at h1 ⊢
    simp only [hc]
    exact h1)
set_option maxRecDepth 100000 in
set_option maxHeartbeats 2000000 in
theorem impllayOut (ac ar : Option Addr) (cc cr : Nat) (t : T) (hD : Drawn t) (w : World) {z : Nat} (hC : ColsAt w z (.slice ac t.cols.length cc) t.cols) (hW : RowsAt w z (.slice ar t.rows.length cr) t.rows) :
    Calls Try.prog 50 #[.agg #[.slice ac t.cols.length cc, .int .i64 t.head, .int .i64 t.foot, .slice ar t.rows.length cr, .int .i64 t.gap]] w fun e w' => ∃ ag cg, e = .returned (.agg #[.slice ac t.cols.length cc, .int .i64 t.head, .int .i64 t.foot, .slice ar t.rows.length cr, .int .i64 t.gap, .int .i64 (gOf t).rows, .int .i64 (gOf t).cols, .slice ag (gOf t).cells.length cg]) ∧ GsAt w' w.heap.size (.slice ag (gOf t).cells.length cg) (gOf t).cells ∧ Below w.heap.size w w' := by
  obtain ⟨W0, hW0⟩ : ∃ W0, (w.alloc (.cells #[.slice ac t.cols.length cc, .int .i64 t.head, .int .i64 t.foot, .slice ar t.rows.length cr, .int .i64 t.gap] 49)).alloc (.cells #[.slice none 0 0, .int .i64 0, .int .i64 0, .slice none 0 0, .int .i64 0, .int .i64 0, .int .i64 0, .slice none 0 0] 77) = W0 := ⟨_, rfl⟩
  have K0 : Below w.heap.size w W0 := by rw [← hW0]; exact k_alloc (k_alloc (Below.refl _ _) _) _
  have hz0 : w.heap.size + 2 ≤ W0.heap.size := by rw [← hW0]; simp
  have X0 : W0.heap[w.heap.size]? = some (.cells #[.slice ac t.cols.length cc, .int .i64 t.head, .int .i64 t.foot, .slice ar t.rows.length cr, .int .i64 t.gap] 49) := by rw [← hW0]; exact more (newest _ _) _
  have X1 : W0.heap[w.heap.size + 1]? = some (.cells #[.slice none 0 0, .int .i64 0, .int .i64 0, .slice none 0 0, .int .i64 0, .int .i64 0, .int .i64 0, .slice none 0 0] 77) := by rw [← hW0]; exact newest1 _ _ _
  have HX := Hid.intro (And.intro X0 X1)
  have HK0 := Hid.intro K0
  have HM := Hid.intro (And.intro (hC.kept K0) (hW.kept K0))
  have HMd := Hid.intro (And.intro (HM.out.1.kept (k_drew (Below.refl _ _))) (HM.out.2.kept (k_drew (Below.refl _ _))))
  have HKd := Hid.intro (k_drew (Below.refl W0.heap.size W0))
  obtain ⟨⟨o0, o1, o2, o3, o4⟩, _⟩ := fiveZ X0
  have l0 := (Array.getElem?_eq_some_iff.1 X0).1
  clear hC hW K0 X0 X1
  go_enter Try.func50, Try.ntmps50
  go_upto_region 1 with fail
  clear hW0
  go_region_with (first
    | (go_at_call 28; refine (implGrdOf ac ar cc cr t hD _ HMd.out.1 HMd.out.2).mono ?_; rintro e w1 ⟨vg, rfl, hO, hb1⟩; obtain ⟨ag, cg, rfl⟩ := own_slice hO; have HG := Hid.intro (hO.at (gOf_gok hD)); have hb1' := k_trans HKd.out hb1; have hz1 := hb1'.size; obtain ⟨⟨q0, q1, q2, q3, q4⟩, _⟩ := fiveZ ((hb1'.block _ l0).trans HX.out.1); have hX1 := (hb1'.block (w.heap.size + 1) (by omega)).trans HX.out.2; obtain ⟨⟨d0, d1, d2, d3, d4, d5, d6, d7⟩, _⟩ := cells8 hX1; obtain ⟨f0, f1, f2, f3, f4, f5, f6, f7⟩ := free8 hX1; have HB1 := Hid.intro hb1'; clear hO hb1 hb1' hX1))
  all_goals
    have HK1 := Hid.intro (k_trans HK0.out HB1.out)
    have HBl := Hid.intro (HK1.out.trans ((st8_bk w1 (w.heap.size + 1) (.slice ac t.cols.length cc) (.int .i64 t.head) (.int .i64 t.foot) (.slice ar t.rows.length cr) (.int .i64 t.gap) (.int .i64 (gOf t).rows) (.int .i64 (gOf t).cols) (.slice ag (gOf t).cells.length cg)).below HK1.out.size (by omega)))
    have HG2 := Hid.intro ((HG.out.base (z' := w.heap.size + 2) (by have := HKd.out.size; omega)).sinceB (st8_bk w1 (w.heap.size + 1) (.slice ac t.cols.length cc) (.int .i64 t.head) (.int .i64 t.foot) (.slice ar t.rows.length cr) (.int .i64 t.gap) (.int .i64 (gOf t).rows) (.int .i64 (gOf t).cols) (.slice ag (gOf t).cells.length cg)).size (fun k h1 h2 => (st8_bk w1 (w.heap.size + 1) (.slice ac t.cols.length cc) (.int .i64 t.head) (.int .i64 t.foot) (.slice ar t.rows.length cr) (.int .i64 t.gap) (.int .i64 (gOf t).rows) (.int .i64 (gOf t).cols) (.slice ag (gOf t).cells.length cg)).block k h2 (by omega)))
    clear HG HK1
    go_wp2
    exact bodyPost_ret (v := .agg #[.slice ac t.cols.length cc, .int .i64 t.head, .int .i64 t.foot, .slice ar t.rows.length cr, .int .i64 t.gap, .int .i64 (gOf t).rows, .int .i64 (gOf t).cols, .slice ag (gOf t).cells.length cg]) (by simp [results, Try.results50, go_sem, d0, d1, d2, d3, d4, d5, d6, d7]) rfl ⟨ag, cg, rfl, HG2.out.base (by omega), HBl.out⟩
set_option maxRecDepth 100000 in
set_option maxHeartbeats 1000000 in
theorem implBrdAcross (ac ar : Option Addr) (cc cr : Nat) (t : T) (hD : Drawn t) (r c : Int) (hr : -1000 ≤ r ∧ r ≤ 1000) (hc : -1000 ≤ c ∧ c ≤ 1000) (w : World) {z : Nat} (hC : ColsAt w z (.slice ac t.cols.length cc) t.cols) (hW : RowsAt w z (.slice ar t.rows.length cr) t.rows) :
    Calls Try.prog 23 #[.agg #[.slice ac t.cols.length cc, .int .i64 t.head, .int .i64 t.foot, .slice ar t.rows.length cr, .int .i64 t.gap], .int .i64 r, .int .i64 c] w fun e w' => e = .returned (.agg #[.int .i64 (acrossF t r c).s, .int .i64 (acrossF t r c).w, .int .i64 (acrossF t r c).c]) ∧ Below w.heap.size w w' := by
  obtain ⟨W0, hW0⟩ : ∃ W0, (w.alloc (.cells #[.slice ac t.cols.length cc, .int .i64 t.head, .int .i64 t.foot, .slice ar t.rows.length cr, .int .i64 t.gap] 49)).alloc (.cells #[.int .i64 0, .int .i64 0, .int .i64 0] 42) = W0 := ⟨_, rfl⟩
  have K0 : Below w.heap.size w W0 := by rw [← hW0]; exact k_alloc (k_alloc (Below.refl _ _) _) _
  have X0 : W0.heap[w.heap.size]? = some (.cells #[.slice ac t.cols.length cc, .int .i64 t.head, .int .i64 t.foot, .slice ar t.rows.length cr, .int .i64 t.gap] 49) := by rw [← hW0]; exact more (newest _ _) _
  have X1 : W0.heap[w.heap.size + 1]? = some (.cells #[.int .i64 0, .int .i64 0, .int .i64 0] 42) := by rw [← hW0]; exact newest1 _ _ _
  have HX := Hid.intro X1
  have HK0 := Hid.intro K0
  have HM := Hid.intro (And.intro (hC.kept K0) (hW.kept K0))
  obtain ⟨⟨o0, o1, o2, o3, o4⟩, _⟩ := fiveZ X0
  clear hC hW K0 X0 X1
  go_enter Try.func23, Try.ntmps23
  go_upto_region 1 with fail
  clear hW0
  go_wp2_with fail
  refine (impllayOut ac ar cc cr t hD _ HM.out.1 HM.out.2).mono ?_
  rintro e w1 ⟨ag, cg, rfl, hG, hb1⟩
  have HG := Hid.intro hG
  have HW1 := Hid.intro (HM.out.2.kept hb1)
  have hl1 : w.heap.size + 1 < W0.heap.size := (Array.getElem?_eq_some_iff.1 HX.out).1
  have HX1 := Hid.intro ((hb1.block _ hl1).trans HX.out)
  have HK1 := Hid.intro (k_trans HK0.out hb1)
  have hl2 := Nat.lt_of_lt_of_le hl1 hb1.size
  clear hG hb1 o0 o1 o2 o3 o4 HK0 HX HM hl1
  go_wp2_with fail
  refine (implacross ac ar ag cc cr cg t hD r c hr hc _ HW1.out HG.out).mono ?_
  rintro e w3 ⟨rfl, hb3⟩
  have X3 := (hb3.block (w.heap.size + 1) hl2).trans HX1.out
  obtain ⟨⟨d0, d1, d2⟩, g0, g1, g2⟩ := cells3 X3
  have HK3 := Hid.intro (k_trans HK1.out hb3)
  have HBl := Hid.intro (HK3.out.trans ((st3_bk w3 (w.heap.size + 1) (.int .i64 (acrossF t r c).s) (.int .i64 (acrossF t r c).w) (.int .i64 (acrossF t r c).c)).below HK3.out.size (by omega)))
  clear hb3 X3 HK3 HK1 HX1 HG HW1 hl2
  go_wp2
  exact bodyPost_ret (v := .agg #[.int .i64 (acrossF t r c).s, .int .i64 (acrossF t r c).w, .int .i64 (acrossF t r c).c]) (by simp [results, Try.results23, go_sem, d0, d1, d2]) rfl ⟨rfl, HBl.out⟩
set_option maxRecDepth 100000 in
set_option maxHeartbeats 1000000 in
theorem implBrdBeside (ac ar : Option Addr) (cc cr : Nat) (t : T) (hD : Drawn t) (r c : Int) (hr : -1000 ≤ r ∧ r ≤ 1000) (hc : -1000 ≤ c ∧ c ≤ 1000) (w : World) {z : Nat} (hC : ColsAt w z (.slice ac t.cols.length cc) t.cols) (hW : RowsAt w z (.slice ar t.rows.length cr) t.rows) :
    Calls Try.prog 24 #[.agg #[.slice ac t.cols.length cc, .int .i64 t.head, .int .i64 t.foot, .slice ar t.rows.length cr, .int .i64 t.gap], .int .i64 r, .int .i64 c] w fun e w' => e = .returned (.agg #[.int .i64 (besideF t r c).s, .int .i64 (besideF t r c).w, .int .i64 (besideF t r c).c]) ∧ Below w.heap.size w w' := by
  obtain ⟨W0, hW0⟩ : ∃ W0, (w.alloc (.cells #[.slice ac t.cols.length cc, .int .i64 t.head, .int .i64 t.foot, .slice ar t.rows.length cr, .int .i64 t.gap] 49)).alloc (.cells #[.int .i64 0, .int .i64 0, .int .i64 0] 42) = W0 := ⟨_, rfl⟩
  have K0 : Below w.heap.size w W0 := by rw [← hW0]; exact k_alloc (k_alloc (Below.refl _ _) _) _
  have X0 : W0.heap[w.heap.size]? = some (.cells #[.slice ac t.cols.length cc, .int .i64 t.head, .int .i64 t.foot, .slice ar t.rows.length cr, .int .i64 t.gap] 49) := by rw [← hW0]; exact more (newest _ _) _
  have X1 : W0.heap[w.heap.size + 1]? = some (.cells #[.int .i64 0, .int .i64 0, .int .i64 0] 42) := by rw [← hW0]; exact newest1 _ _ _
  have HX := Hid.intro X1
  have HK0 := Hid.intro K0
  have HM := Hid.intro (And.intro (hC.kept K0) (hW.kept K0))
  obtain ⟨⟨o0, o1, o2, o3, o4⟩, _⟩ := fiveZ X0
  clear hC hW K0 X0 X1
  go_enter Try.func24, Try.ntmps24
  go_upto_region 1 with fail
  clear hW0
  go_wp2_with fail
  refine (impllayOut ac ar cc cr t hD _ HM.out.1 HM.out.2).mono ?_
  rintro e w1 ⟨ag, cg, rfl, hG, hb1⟩
  have HG := Hid.intro hG
  have HW1 := Hid.intro (HM.out.2.kept hb1)
  have hl1 : w.heap.size + 1 < W0.heap.size := (Array.getElem?_eq_some_iff.1 HX.out).1
  have HX1 := Hid.intro ((hb1.block _ hl1).trans HX.out)
  have HK1 := Hid.intro (k_trans HK0.out hb1)
  have hl2 := Nat.lt_of_lt_of_le hl1 hb1.size
  clear hG hb1 o0 o1 o2 o3 o4 HK0 HX HM hl1
  go_wp2_with fail
  refine (implbeside ac ar ag cc cr cg t hD r c hr hc _ HW1.out HG.out).mono ?_
  rintro e w3 ⟨rfl, hb3⟩
  have X3 := (hb3.block (w.heap.size + 1) hl2).trans HX1.out
  obtain ⟨⟨d0, d1, d2⟩, g0, g1, g2⟩ := cells3 X3
  have HK3 := Hid.intro (k_trans HK1.out hb3)
  have HBl := Hid.intro (HK3.out.trans ((st3_bk w3 (w.heap.size + 1) (.int .i64 (besideF t r c).s) (.int .i64 (besideF t r c).w) (.int .i64 (besideF t r c).c)).below HK3.out.size (by omega)))
  clear hb3 X3 HK3 HK1 HX1 HG HW1 hl2
  go_wp2
  exact bodyPost_ret (v := .agg #[.int .i64 (besideF t r c).s, .int .i64 (besideF t r c).w, .int .i64 (besideF t r c).c]) (by simp [results, Try.results24, go_sem, d0, d1, d2]) rfl ⟨rfl, HBl.out⟩
end Go.Proofs.Ytfkkhfiiokhnaag
