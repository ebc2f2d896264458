/-
  PROVED HERE: the model's BrdAcross and BrdBeside at a drawn table; nothing that was in memory is turned. Also: the law's own pwMeets says yes of the border that is shown between two cells of a drawn table. Also: the law's own pwMeets says yes of the border that is shown between two cells of a drawn table.
-/
import Derived.Test.YtfkkhfiiokhnaagB28
import Derived.Test.YtfkkhfiiokhnaagB29
import Derived.Test.YtfkkhfiiokhnaagB18
import Derived.Test.YtfkkhfiiokhnaagB13
import Derived.Test.YtfkkhfiiokhnaagB25
import Derived.Test.YtfkkhfiiokhnaagB22
import Derived.Test.YtfkkhfiiokhnaagB24
import Derived.Deep.RegionWith
import Derived.Deep.DeepCutAuto
import Derived.Deep.QuietTactic
import Derived.BigQuiet
import Derived.BigRegion
namespace Go.Proofs.Ytfkkhfiiokhnaag
open Go.RowKit

theorem atN_no {t : T} (h : tblB t = false) (r c : Int) : atN t r c = -1 := by unfold atN; rw [gOf_no h]; rfl
theorem acrossF_no {t : T} (h : tblB t = false) (r c : Int) : acrossF t r c = dF := by unfold acrossF; rw [atN_no h, atN_no h]; rfl
theorem besideF_no {t : T} (h : tblB t = false) (r c : Int) : besideF t r c = dF := by unfold besideF; rw [atN_no h, atN_no h]; rfl
theorem l3Of_gB (ac ar : Option Addr) (cc cr : Nat) (t : T) (hD : Drawn t) (hok : tblB t = true) (w : World) {z : Nat} (hr : RowsAt w z (.slice ar t.rows.length cr) t.rows) :
    Calls Try.prog 54 #[.agg #[.slice ac t.cols.length cc, .int .i64 t.head, .int .i64 t.foot, .slice ar t.rows.length cr, .int .i64 t.gap]] w fun e w' => ∃ ag cg, e = .returned (.agg #[.int .i64 (gOf t).rows, .int .i64 (gOf t).cols, .slice ag (gOf t).cells.length cg]) ∧ GsAt w' w.heap.size (.slice ag (gOf t).cells.length cg) (gOf t).cells ∧ Below w.heap.size w w' := by
  refine (l3Of_any ac ar cc cr t (low_of hok hD) w hr).mono ?_
  rintro e w' ⟨vg, rfl, hO, hb⟩
  have hgk := gOf_gok hD
  rw [gOf_ok hok] at hgk ⊢
  obtain ⟨ag, cg, rfl⟩ := own_slice hO
  exact ⟨ag, cg, rfl, hO.at hgk, hb⟩
set_option maxRecDepth 100000 in
set_option maxHeartbeats 1000000 in
theorem specBrdAcross (ac ar : Option Addr) (cc cr : Nat) (t : T) (hD : Drawn t) (r c : Int) (hr : -1000 ≤ r ∧ r ≤ 1000) (hc : -1000 ≤ c ∧ c ≤ 1000) (w : World) {z : Nat} (hC : ColsAt w z (.slice ac t.cols.length cc) t.cols) (hW : RowsAt w z (.slice ar t.rows.length cr) t.rows) :
    Calls Try.prog 25 #[.agg #[.slice ac t.cols.length cc, .int .i64 t.head, .int .i64 t.foot, .slice ar t.rows.length cr, .int .i64 t.gap], .int .i64 r, .int .i64 c] w fun e w' => e = .returned (.agg #[.int .i64 (acrossF t r c).s, .int .i64 (acrossF t r c).w, .int .i64 (acrossF t r c).c]) ∧ Below w.heap.size w w' := by
  obtain ⟨W0, hW0⟩ : ∃ W0, (w.alloc (.cells #[.slice ac t.cols.length cc, .int .i64 t.head, .int .i64 t.foot, .slice ar t.rows.length cr, .int .i64 t.gap] 49)).alloc (.cells #[.int .i64 0, .int .i64 0, .int .i64 0] 42) = W0 := ⟨_, rfl⟩
  have K0 : Below w.heap.size w W0 := by rw [← hW0]; exact k_alloc (k_alloc (Below.refl _ _) _) _
  have X0 : W0.heap[w.heap.size]? = some (.cells #[.slice ac t.cols.length cc, .int .i64 t.head, .int .i64 t.foot, .slice ar t.rows.length cr, .int .i64 t.gap] 49) := by rw [← hW0]; exact (Below.heap_alloc _ _ _ (by simp)).trans (newestB _ _)
  have X1 : W0.heap[w.heap.size + 1]? = some (.cells #[.int .i64 0, .int .i64 0, .int .i64 0] 42) := by
    have := newestB (w.alloc (.cells #[.slice ac t.cols.length cc, .int .i64 t.head, .int .i64 t.foot, .slice ar t.rows.length cr, .int .i64 t.gap] 49)) (.cells #[.int .i64 0, .int .i64 0, .int .i64 0] 42)
    rw [hW0] at this
    simpa using this
  have HX := Hid.intro X1
  have HT := Hid.intro X0
  have HK0 := Hid.intro K0
  have HM := Hid.intro (And.intro (hC.kept K0) (hW.kept K0))
  have KO := Hid.intro (specTblOk ac ar cc cr t W0 HM.out.1 HM.out.2)
  obtain ⟨b0, b1, b2, b3, b4⟩ := fiveO X0
  have hl0 : w.heap.size < W0.heap.size := (Array.getElem?_eq_some_iff.1 X0).1
  have hl1 : w.heap.size + 1 < W0.heap.size := (Array.getElem?_eq_some_iff.1 X1).1
  clear hC hW K0 X0 X1
  cases htk : tblB t with
  | false =>
    rw [htk] at KO
    have HE := Hid.intro (acrossF_no htk r c)
    clear htk
    go_enter Try.func25, Try.ntmps25
    go_upto_region 1 with fail
    clear hW0
    go_wp2_with fail
    refine KO.out.mono ?_
    rintro e w1 ⟨rfl, hb1⟩
    have X3 := (hb1.block (w.heap.size + 1) hl1).trans HX.out
    obtain ⟨⟨d0, d1, d2⟩, g0, g1, g2⟩ := cells3 X3
    have HK3 := Hid.intro (k_trans HK0.out hb1)
    have HBl := Hid.intro (HK3.out.trans ((st3_bk w1 (w.heap.size + 1) (.int .i64 0) (.int .i64 0) (.int .i64 (-1))).below HK3.out.size (by omega)))
    clear hb1 X3 HK3 KO b0 b1 b2 b3 b4 HX HT HM HK0 hl0 hl1 hr hc
    go_wp2
    exact bodyPost_ret (v := .agg #[.int .i64 0, .int .i64 0, .int .i64 (-1)]) (by simp [results, Try.results25, go_sem, d0, d1, d2]) rfl ⟨by rw [HE.out]; rfl, HBl.out⟩
  | true =>
    rw [htk] at KO
    have K3 := Hid.intro (fun W h => l3Of_gB ac ar cc cr t hD htk W (z := z) h)
    have KL := Hid.intro (fun ag cg W zg h1 h2 => specl8Across ac ar ag cc cr cg t hD r c hr hc W (z := z) (zg := zg) h1 h2)
    clear htk hD hr hc
    go_enter Try.func25, Try.ntmps25
    go_upto_region 1 with fail
    clear hW0
    go_wp2_with fail
    refine KO.out.mono ?_
    rintro e w1 ⟨rfl, hb1⟩
    have HW1 := Hid.intro (HM.out.2.kept hb1)
    have HX1 := Hid.intro ((hb1.block _ hl1).trans HX.out)
    have HT1 := Hid.intro ((hb1.block _ hl0).trans HT.out)
    have HK1 := Hid.intro (k_trans HK0.out hb1)
    clear hb1 KO b0 b1 b2 b3 b4 HX HT HM HK0 hl0 hl1
    go_upto_region 3 with fail
    obtain ⟨b0, b1, b2, b3, b4⟩ := fiveO HT1.out
    have ht1 := (Array.getElem?_eq_some_iff.1 HT1.out).1
    have hx1 := (Array.getElem?_eq_some_iff.1 HX1.out).1
    have HWd : Hid (RowsAt w1.drew z (.slice ar t.rows.length cr) t.rows) := HW1.out.kept (k_drew (Below.refl _ _))
    have HBd := Hid.intro (k_drew HK1.out)
    have HXd : Hid (w1.drew.heap[w.heap.size + 1]? = some (.cells #[.int .i64 0, .int .i64 0, .int .i64 0] 42)) := HX1.out
    have HTd : Hid (w1.drew.heap[w.heap.size]? = some (.cells #[.slice ac t.cols.length cc, .int .i64 t.head, .int .i64 t.foot, .slice ar t.rows.length cr, .int .i64 t.gap] 49)) := HT1.out
    clear HX1 HT1 HK1 HW1
    go_region_with (first
      | (go_at_call 54; refine (K3.out _ HWd.out).mono ?_; rintro e w2 ⟨ag, cg, rfl, hG2, hb2⟩; have HG2 := Hid.intro hG2; have HW2 := Hid.intro (HWd.out.kept hb2); have HB2 := Hid.intro (k_trans HBd.out hb2); have HX2 := Hid.intro ((hb2.block _ (Array.getElem?_eq_some_iff.1 HXd.out).1).trans HXd.out); have HT2 := Hid.intro ((hb2.block _ (Array.getElem?_eq_some_iff.1 HTd.out).1).trans HTd.out); clear hG2 hb2; obtain ⟨p0, p1, p2, p3, p4⟩ := fiveO HT2.out; have ht2 := (Array.getElem?_eq_some_iff.1 HT2.out).1)
      | (go_at_call 53; refine (KL.out ag cg _ _ HW2.out HG2.out).mono ?_; rintro e w3 ⟨rfl, hb3⟩; have X3 := (hb3.block _ (Array.getElem?_eq_some_iff.1 HX2.out).1).trans HX2.out; obtain ⟨⟨d0, d1, d2⟩, g0, g1, g2⟩ := cells3 X3; have HB3 := Hid.intro (k_trans HB2.out hb3); have HBl := Hid.intro (HB3.out.trans ((st3_bk w3 (w.heap.size + 1) (.int .i64 (acrossF t r c).s) (.int .i64 (acrossF t r c).w) (.int .i64 (acrossF t r c).c)).below HB3.out.size (Nat.le_succ _))); clear hb3 X3))
    all_goals
      go_wp2
      exact bodyPost_ret (v := .agg #[.int .i64 (acrossF t r c).s, .int .i64 (acrossF t r c).w, .int .i64 (acrossF t r c).c]) (by simp [results, Try.results25, go_sem, d0, d1, d2]) rfl ⟨rfl, HBl.out⟩
set_option maxRecDepth 100000 in
set_option maxHeartbeats 1000000 in
theorem specBrdBeside (ac ar : Option Addr) (cc cr : Nat) (t : T) (hD : Drawn t) (r c : Int) (hr : -1000 ≤ r ∧ r ≤ 1000) (hc : -1000 ≤ c ∧ c ≤ 1000) (w : World) {z : Nat} (hC : ColsAt w z (.slice ac t.cols.length cc) t.cols) (hW : RowsAt w z (.slice ar t.rows.length cr) t.rows) :
    Calls Try.prog 26 #[.agg #[.slice ac t.cols.length cc, .int .i64 t.head, .int .i64 t.foot, .slice ar t.rows.length cr, .int .i64 t.gap], .int .i64 r, .int .i64 c] w fun e w' => e = .returned (.agg #[.int .i64 (besideF t r c).s, .int .i64 (besideF t r c).w, .int .i64 (besideF t r c).c]) ∧ Below w.heap.size w w' := by
  obtain ⟨W0, hW0⟩ : ∃ W0, (w.alloc (.cells #[.slice ac t.cols.length cc, .int .i64 t.head, .int .i64 t.foot, .slice ar t.rows.length cr, .int .i64 t.gap] 49)).alloc (.cells #[.int .i64 0, .int .i64 0, .int .i64 0] 42) = W0 := ⟨_, rfl⟩
  have K0 : Below w.heap.size w W0 := by rw [← hW0]; exact k_alloc (k_alloc (Below.refl _ _) _) _
  have X0 : W0.heap[w.heap.size]? = some (.cells #[.slice ac t.cols.length cc, .int .i64 t.head, .int .i64 t.foot, .slice ar t.rows.length cr, .int .i64 t.gap] 49) := by rw [← hW0]; exact (Below.heap_alloc _ _ _ (by simp)).trans (newestB _ _)
  have X1 : W0.heap[w.heap.size + 1]? = some (.cells #[.int .i64 0, .int .i64 0, .int .i64 0] 42) := by
    have := newestB (w.alloc (.cells #[.slice ac t.cols.length cc, .int .i64 t.head, .int .i64 t.foot, .slice ar t.rows.length cr, .int .i64 t.gap] 49)) (.cells #[.int .i64 0, .int .i64 0, .int .i64 0] 42)
    rw [hW0] at this
    simpa using this
  have HX := Hid.intro X1
  have HT := Hid.intro X0
  have HK0 := Hid.intro K0
  have HM := Hid.intro (And.intro (hC.kept K0) (hW.kept K0))
  have KO := Hid.intro (specTblOk ac ar cc cr t W0 HM.out.1 HM.out.2)
  obtain ⟨b0, b1, b2, b3, b4⟩ := fiveO X0
  have hl0 : w.heap.size < W0.heap.size := (Array.getElem?_eq_some_iff.1 X0).1
  have hl1 : w.heap.size + 1 < W0.heap.size := (Array.getElem?_eq_some_iff.1 X1).1
  clear hC hW K0 X0 X1
  cases htk : tblB t with
  | false =>
    rw [htk] at KO
    have HE := Hid.intro (besideF_no htk r c)
    clear htk
    go_enter Try.func26, Try.ntmps26
    go_upto_region 1 with fail
    clear hW0
    go_wp2_with fail
    refine KO.out.mono ?_
    rintro e w1 ⟨rfl, hb1⟩
    have X3 := (hb1.block (w.heap.size + 1) hl1).trans HX.out
    obtain ⟨⟨d0, d1, d2⟩, g0, g1, g2⟩ := cells3 X3
    have HK3 := Hid.intro (k_trans HK0.out hb1)
    have HBl := Hid.intro (HK3.out.trans ((st3_bk w1 (w.heap.size + 1) (.int .i64 0) (.int .i64 0) (.int .i64 (-1))).below HK3.out.size (by omega)))
    clear hb1 X3 HK3 KO b0 b1 b2 b3 b4 HX HT HM HK0 hl0 hl1 hr hc
    go_wp2
    exact bodyPost_ret (v := .agg #[.int .i64 0, .int .i64 0, .int .i64 (-1)]) (by simp [results, Try.results26, go_sem, d0, d1, d2]) rfl ⟨by rw [HE.out]; rfl, HBl.out⟩
  | true =>
    rw [htk] at KO
    have K3 := Hid.intro (fun W h => l3Of_gB ac ar cc cr t hD htk W (z := z) h)
    have KL := Hid.intro (fun ag cg W zg h1 h2 => specl8Beside ac ar ag cc cr cg t hD r c hr hc W (z := z) (zg := zg) h1 h2)
    clear htk hD hr hc
    go_enter Try.func26, Try.ntmps26
    go_upto_region 1 with fail
    clear hW0
    go_wp2_with fail
    refine KO.out.mono ?_
    rintro e w1 ⟨rfl, hb1⟩
    have HW1 := Hid.intro (HM.out.2.kept hb1)
    have HX1 := Hid.intro ((hb1.block _ hl1).trans HX.out)
    have HT1 := Hid.intro ((hb1.block _ hl0).trans HT.out)
    have HK1 := Hid.intro (k_trans HK0.out hb1)
    clear hb1 KO b0 b1 b2 b3 b4 HX HT HM HK0 hl0 hl1
    go_upto_region 3 with fail
    obtain ⟨b0, b1, b2, b3, b4⟩ := fiveO HT1.out
    have ht1 := (Array.getElem?_eq_some_iff.1 HT1.out).1
    have hx1 := (Array.getElem?_eq_some_iff.1 HX1.out).1
    have HWd : Hid (RowsAt w1.drew z (.slice ar t.rows.length cr) t.rows) := HW1.out.kept (k_drew (Below.refl _ _))
    have HBd := Hid.intro (k_drew HK1.out)
    have HXd : Hid (w1.drew.heap[w.heap.size + 1]? = some (.cells #[.int .i64 0, .int .i64 0, .int .i64 0] 42)) := HX1.out
    have HTd : Hid (w1.drew.heap[w.heap.size]? = some (.cells #[.slice ac t.cols.length cc, .int .i64 t.head, .int .i64 t.foot, .slice ar t.rows.length cr, .int .i64 t.gap] 49)) := HT1.out
    clear HX1 HT1 HK1 HW1
    go_region_with (first
      | (go_at_call 54; refine (K3.out _ HWd.out).mono ?_; rintro e w2 ⟨ag, cg, rfl, hG2, hb2⟩; have HG2 := Hid.intro hG2; have HW2 := Hid.intro (HWd.out.kept hb2); have HB2 := Hid.intro (k_trans HBd.out hb2); have HX2 := Hid.intro ((hb2.block _ (Array.getElem?_eq_some_iff.1 HXd.out).1).trans HXd.out); have HT2 := Hid.intro ((hb2.block _ (Array.getElem?_eq_some_iff.1 HTd.out).1).trans HTd.out); clear hG2 hb2; obtain ⟨p0, p1, p2, p3, p4⟩ := fiveO HT2.out; have ht2 := (Array.getElem?_eq_some_iff.1 HT2.out).1)
      | (go_at_call 55; refine (KL.out ag cg _ _ HW2.out HG2.out).mono ?_; rintro e w3 ⟨rfl, hb3⟩; have X3 := (hb3.block _ (Array.getElem?_eq_some_iff.1 HX2.out).1).trans HX2.out; obtain ⟨⟨d0, d1, d2⟩, g0, g1, g2⟩ := cells3 X3; have HB3 := Hid.intro (k_trans HB2.out hb3); have HBl := Hid.intro (HB3.out.trans ((st3_bk w3 (w.heap.size + 1) (.int .i64 (besideF t r c).s) (.int .i64 (besideF t r c).w) (.int .i64 (besideF t r c).c)).below HB3.out.size (Nat.le_succ _))); clear hb3 X3))
    all_goals
      go_wp2
      exact bodyPost_ret (v := .agg #[.int .i64 (besideF t r c).s, .int .i64 (besideF t r c).w, .int .i64 (besideF t r c).c]) (by simp [results, Try.results26, go_sem, d0, d1, d2]) rfl ⟨rfl, HBl.out⟩
end Go.Proofs.Ytfkkhfiiokhnaag
namespace Go.Proofs.Ytfkkhfiiokhnaag
open Go.RowKit Go.BigFrame

/-- what stays all along pwMeets: its boxes -/
structure PM (w : World) (n : Nat) (ac ar ag : Option Addr) (cc cr cg : Nat) (t : T) (x : Fr) (o0 o1 u0 u1 : Int) (W : World) : Prop where
  b : Below n w W
  xT : W.heap[n]? = some (.cells #[.slice ac t.cols.length cc, .int .i64 t.head, .int .i64 t.foot, .slice ar t.rows.length cr, .int .i64 t.gap] 49)
  xG : W.heap[n + 1]? = some (.cells #[.int .i64 (gOf t).rows, .int .i64 (gOf t).cols, .slice ag (gOf t).cells.length cg] 56)
  xX : W.heap[n + 1 + 1]? = some (.cells #[.int .i64 x.s, .int .i64 x.w, .int .i64 x.c] 42)
  xO : W.heap[n + 1 + 1 + 1]? = some (.cells #[.int .i64 o0, .int .i64 o1] 34)
  xU : W.heap[n + 1 + 1 + 1 + 1]? = some (.cells #[.int .i64 u0, .int .i64 u1] 34)
theorem newestK {w : World} {k : Nat} (h : w.heap.size = k) (o : Obj) : (w.alloc o).heap[k]? = some o := by subst h; exact newestB _ _
theorem lt_of {W : World} {k : Nat} {o : Obj} (h : W.heap[k]? = some o) : k < W.heap.size := (Array.getElem?_eq_some_iff.1 h).1
theorem PM.kept {w : World} {n : Nat} {ac ar ag : Option Addr} {cc cr cg : Nat} {t : T} {x : Fr} {o0 o1 u0 u1 : Int} {W W' : World} (h : PM w n ac ar ag cc cr cg t x o0 o1 u0 u1 W) (hn : n ≤ W.heap.size) (k : Below W.heap.size W W') : PM w n ac ar ag cc cr cg t x o0 o1 u0 u1 W' :=
  ⟨h.b.trans (k.mono hn), (k.block _ (lt_of h.xT)).trans h.xT, (k.block _ (lt_of h.xG)).trans h.xG, (k.block _ (lt_of h.xX)).trans h.xX, (k.block _ (lt_of h.xO)).trans h.xO, (k.block _ (lt_of h.xU)).trans h.xU⟩
theorem set2 (W : World) (g : Nat) (p q : Value) : Bk g W ((W.setCell ⟨g, 0, none⟩ p).setCell ⟨g, 1, none⟩ q) := Bk.set (Bk.set (Bk.refl g W) (p := ⟨g, 0, none⟩) (.inl rfl) p) (p := ⟨g, 1, none⟩) (.inl rfl) q
theorem set2_is {W : World} {g : Nat} {x0 x1 : Value} {t : TypeId} (h : W.heap[g]? = some (.cells #[x0, x1] t)) (p q : Value) : ((W.setCell ⟨g, 0, none⟩ p).setCell ⟨g, 1, none⟩ q).heap[g]? = some (.cells #[p, q] t) := (setB (setB h (p := 0) p) (p := 1) q).trans (by simp)
theorem PM.setO {w : World} {n : Nat} {ac ar ag : Option Addr} {cc cr cg : Nat} {t : T} {x : Fr} {o0 o1 u0 u1 : Int} {W : World} (h : PM w n ac ar ag cc cr cg t x o0 o1 u0 u1 W) (p q : Int) : PM w n ac ar ag cc cr cg t x p q u0 u1 ((W.setCell ⟨n + 1 + 1 + 1, 0, none⟩ (.int .i64 p)).setCell ⟨n + 1 + 1 + 1, 1, none⟩ (.int .i64 q)) :=
  have k := set2 W (n + 1 + 1 + 1) (.int .i64 p) (.int .i64 q)
  ⟨h.b.trans (k.below (Nat.le_of_lt (lt_of h.xT)) (by omega)), (k.block _ (lt_of h.xT) (by omega)).trans h.xT, (k.block _ (lt_of h.xG) (by omega)).trans h.xG, (k.block _ (lt_of h.xX) (by omega)).trans h.xX, set2_is h.xO _ _, (k.block _ (lt_of h.xU) (by omega)).trans h.xU⟩
theorem PM.setU {w : World} {n : Nat} {ac ar ag : Option Addr} {cc cr cg : Nat} {t : T} {x : Fr} {o0 o1 u0 u1 : Int} {W : World} (h : PM w n ac ar ag cc cr cg t x o0 o1 u0 u1 W) (p q : Int) : PM w n ac ar ag cc cr cg t x o0 o1 p q ((W.setCell ⟨n + 1 + 1 + 1 + 1, 0, none⟩ (.int .i64 p)).setCell ⟨n + 1 + 1 + 1 + 1, 1, none⟩ (.int .i64 q)) :=
  have k := set2 W (n + 1 + 1 + 1 + 1) (.int .i64 p) (.int .i64 q)
  ⟨h.b.trans (k.below (Nat.le_of_lt (lt_of h.xT)) (by omega)), (k.block _ (lt_of h.xT) (by omega)).trans h.xT, (k.block _ (lt_of h.xG) (by omega)).trans h.xG, (k.block _ (lt_of h.xX) (by omega)).trans h.xX, (k.block _ (lt_of h.xO) (by omega)).trans h.xO, set2_is h.xU _ _⟩
theorem meet_same {x y : Fr} (h : x.c = y.c) : meetF x y = dF := if_pos h
theorem meet_y {x y : Fr} (h : x.c ≠ y.c) (h0 : x.c < 0) : meetF x y = y := by rw [meetF, if_neg h, if_pos h0]
theorem meet_x {x y : Fr} (h : x.c ≠ y.c) (h0 : ¬ x.c < 0) (h1 : y.c < 0) : meetF x y = x := by rw [meetF, if_neg h, if_neg h0, if_pos h1]
theorem meet_by {x y : Fr} (h : x.c ≠ y.c) (h0 : ¬ x.c < 0) (h1 : ¬ y.c < 0) (hb : btF y x = true) : meetF x y = y := by rw [meetF, if_neg h, if_neg h0, if_neg h1, if_pos hb]
theorem meet_bx {x y : Fr} (h : x.c ≠ y.c) (h0 : ¬ x.c < 0) (h1 : ¬ y.c < 0) (hb : btF y x = false) : meetF x y = x := by rw [meetF, if_neg h, if_neg h0, if_neg h1, if_neg (by rw [hb]; simp)]
theorem PM.x_is {w : World} {n : Nat} {ac ar ag : Option Addr} {cc cr cg : Nat} {t : T} {x : Fr} {o0 o1 u0 u1 : Int} {W : World} (h : PM w n ac ar ag cc cr cg t x o0 o1 u0 u1 W) {a b c : Int} (e : x = ⟨a, b, c⟩) : (W.cell? ⟨n + 1 + 1, 0, none⟩ = some (.int .i64 a) ∧ W.cell? ⟨n + 1 + 1, 1, none⟩ = some (.int .i64 b) ∧ W.cell? ⟨n + 1 + 1, 2, none⟩ = some (.int .i64 c)) := by subst e; exact (cells3 h.xX).1
theorem is_y {p q : Fr} {j : Nat} (hp : p.c = -1) (hq : q.c = (j : Int)) : meetF p q = q := meet_y (by omega) (by omega)
theorem is_x {p q : Fr} {k : Nat} (hp : p.c = (k : Int)) (hq : q.c = -1) : meetF p q = p := meet_x (by omega) (by omega) (by omega)
theorem is_by {p q : Fr} {k j : Nat} (hp : p.c = (k : Int)) (hq : q.c = (j : Int)) (h : k ≠ j) (hb : btF q p = true) : meetF p q = q := meet_by (by omega) (by omega) (by omega) hb
theorem is_bx {p q : Fr} {k j : Nat} (hp : p.c = (k : Int)) (hq : q.c = (j : Int)) (h : k ≠ j) (hb : btF q p = false) : meetF p q = p := meet_bx (by omega) (by omega) (by omega) hb
theorem neg_ne (j : Nat) : ((-1 : Int) == (j : Int)) = false := beq_eq_false_iff_ne.2 (by omega)
theorem ne_neg (j : Nat) : ((j : Int) == (-1 : Int)) = false := beq_eq_false_iff_ne.2 (by omega)
theorem nat_ne {k j : Nat} (h : k ≠ j) : ((k : Int) == (j : Int)) = false := beq_eq_false_iff_ne.2 (by omega)
theorem not_neg (j : Nat) : ¬ (j : Int) < 0 := by omega
theorem two2 {w : World} {g : Nat} {x0 x1 : Value} {t : TypeId} (h : w.heap[g]? = some (.cells #[x0, x1] t)) : (w.cell? ⟨g, 0, none⟩ = some x0 ∧ w.cell? ⟨g, 1, none⟩ = some x1) ∧ w.frozen? ⟨g, 0, none⟩ = false ∧ w.frozen? ⟨g, 1, none⟩ = false := ⟨⟨cellB h, cellB h⟩, freeB h, freeB h⟩
end Go.Proofs.Ytfkkhfiiokhnaag
namespace Go.Proofs.Ytfkkhfiiokhnaag
open Go.RowKit Go.BigFrame
set_option maxRecDepth 100000 in
set_option maxHeartbeats 4000000 in
theorem pwMeets_across_nn (ac ar ag : Option Addr) (cc cr cg : Nat) (t : T) (hD : Drawn t) (x : Fr) (hx : x = meetF ⟨(cellN t (-1)).a3, (cellN t (-1)).b3, -1⟩ ⟨(cellN t (-1)).a1, (cellN t (-1)).b1, -1⟩) (w : World) {z zg : Nat} (hW : RowsAt w z (.slice ar t.rows.length cr) t.rows) (hG : GsAt w zg (.slice ag (gOf t).cells.length cg) (gOf t).cells) :
    Calls Try.prog 30 #[.agg #[.slice ac t.cols.length cc, .int .i64 t.head, .int .i64 t.foot, .slice ar t.rows.length cr, .int .i64 t.gap], .agg #[.int .i64 (gOf t).rows, .int .i64 (gOf t).cols, .slice ag (gOf t).cells.length cg], .int .i64 (-1), .int .i64 (-1), .agg #[.int .i64 x.s, .int .i64 x.w, .int .i64 x.c], .bool true] w fun e w' => e = .returned (.bool true) ∧ Below w.heap.size w w' := by
  have hmx : Try.prog.follows .mixedOrders = true := by kernel_rfl
  obtain ⟨h40, C, hgc, hC88, hcel⟩ := cel_of hD
  have HCel := Hid.intro hcel
  have HM := Hid.intro hx
  have HR := Hid.intro hW
  have HG := Hid.intro hG
  clear hgc hC88 hcel hx hW hG hD
  have HP : Hid (PM w w.heap.size ac ar ag cc cr cg t x 0 0 0 0 (((((w.alloc (.cells #[.slice ac t.cols.length cc, .int .i64 t.head, .int .i64 t.foot, .slice ar t.rows.length cr, .int .i64 t.gap] 49)).alloc (.cells #[.int .i64 (gOf t).rows, .int .i64 (gOf t).cols, .slice ag (gOf t).cells.length cg] 56)).alloc (.cells #[.int .i64 x.s, .int .i64 x.w, .int .i64 x.c] 42)).alloc (.cells #[.int .i64 0, .int .i64 0] 34)).alloc (.cells #[.int .i64 0, .int .i64 0] 34))) := ⟨k_alloc (k_alloc (k_alloc (k_alloc (k_alloc (Below.refl _ _) _) _) _) _) _, more (more (more (more (newestK rfl _) _) _) _) _, more (more (more (newestK (by simp) _) _) _) _, more (more (newestK (by simp) _) _) _, more (newestK (by simp) _) _, newestK (by simp) _⟩
  go_enter Try.func30, Try.ntmps30
  go_upto_region 2 with fail
  generalize ((((w.alloc (.cells #[.slice ac t.cols.length cc, .int .i64 t.head, .int .i64 t.foot, .slice ar t.rows.length cr, .int .i64 t.gap] 49)).alloc (.cells #[.int .i64 (gOf t).rows, .int .i64 (gOf t).cols, .slice ag (gOf t).cells.length cg] 56)).alloc (.cells #[.int .i64 x.s, .int .i64 x.w, .int .i64 x.c] 42)).alloc (.cells #[.int .i64 0, .int .i64 0] 34)).alloc (.cells #[.int .i64 0, .int .i64 0] 34) = W at HP ⊢
  go_upto_region 7 with fail
  obtain ⟨p0, p1, p2⟩ := HP.out.x_is (HM.out.trans (meet_same rfl))
  obtain ⟨⟨d0, d1⟩, _, _⟩ := two2 HP.out.xO
  obtain ⟨⟨d2, d3⟩, _, _⟩ := two2 HP.out.xU
  clear HM
  go_wp2
  go_ret
  exact ⟨rfl, HP.out.b⟩
set_option maxRecDepth 100000 in
set_option maxHeartbeats 4000000 in
theorem pwMeets_across_nj (ac ar ag : Option Addr) (cc cr cg : Nat) (t : T) (hD : Drawn t) (j : Nat) (hj : j < (gOf t).cells.length) (x : Fr) (hx : x = meetF ⟨(cellN t (-1)).a3, (cellN t (-1)).b3, -1⟩ ⟨(cellN t (j : Int)).a1, (cellN t (j : Int)).b1, (j : Int)⟩) (w : World) {z zg : Nat} (hW : RowsAt w z (.slice ar t.rows.length cr) t.rows) (hG : GsAt w zg (.slice ag (gOf t).cells.length cg) (gOf t).cells) :
    Calls Try.prog 30 #[.agg #[.slice ac t.cols.length cc, .int .i64 t.head, .int .i64 t.foot, .slice ar t.rows.length cr, .int .i64 t.gap], .agg #[.int .i64 (gOf t).rows, .int .i64 (gOf t).cols, .slice ag (gOf t).cells.length cg], .int .i64 (-1), .int .i64 (j : Int), .agg #[.int .i64 x.s, .int .i64 x.w, .int .i64 x.c], .bool true] w fun e w' => e = .returned (.bool true) ∧ Below w.heap.size w w' := by
  have hmx : Try.prog.follows .mixedOrders = true := by kernel_rfl
  obtain ⟨h40, C, hgc, hC88, hcel⟩ := cel_of hD
  have HCel := Hid.intro hcel
  have HM := Hid.intro hx
  have HR := Hid.intro hW
  have HG := Hid.intro hG
  clear hgc hC88 hcel hx hW hG hD
  have HP : Hid (PM w w.heap.size ac ar ag cc cr cg t x 0 0 0 0 (((((w.alloc (.cells #[.slice ac t.cols.length cc, .int .i64 t.head, .int .i64 t.foot, .slice ar t.rows.length cr, .int .i64 t.gap] 49)).alloc (.cells #[.int .i64 (gOf t).rows, .int .i64 (gOf t).cols, .slice ag (gOf t).cells.length cg] 56)).alloc (.cells #[.int .i64 x.s, .int .i64 x.w, .int .i64 x.c] 42)).alloc (.cells #[.int .i64 0, .int .i64 0] 34)).alloc (.cells #[.int .i64 0, .int .i64 0] 34))) := ⟨k_alloc (k_alloc (k_alloc (k_alloc (k_alloc (Below.refl _ _) _) _) _) _) _, more (more (more (more (newestK rfl _) _) _) _) _, more (more (more (newestK (by simp) _) _) _) _, more (more (newestK (by simp) _) _) _, more (newestK (by simp) _) _, newestK (by simp) _⟩
  go_enter Try.func30, Try.ntmps30
  go_upto_region 2 with fail
  generalize ((((w.alloc (.cells #[.slice ac t.cols.length cc, .int .i64 t.head, .int .i64 t.foot, .slice ar t.rows.length cr, .int .i64 t.gap] 49)).alloc (.cells #[.int .i64 (gOf t).rows, .int .i64 (gOf t).cols, .slice ag (gOf t).cells.length cg] 56)).alloc (.cells #[.int .i64 x.s, .int .i64 x.w, .int .i64 x.c] 42)).alloc (.cells #[.int .i64 0, .int .i64 0] 34)).alloc (.cells #[.int .i64 0, .int .i64 0] 34) = W at HP ⊢
  go_upto_region 7 with fail
  go_upto_region 8 with fail
  have HTxj : Hid (∃ rn jn : Nat, ((gOf t).cells.getD j dG).row = rn ∧ ((gOf t).cells.getD j dG).ins = jn ∧ rn < t.rows.length ∧ jn < (t.rows.getD rn dR).cells.length ∧ cellN t (j : Int) = (t.rows.getD rn dR).cells.getD jn dC) := by
    obtain ⟨rn, jn, cn, mn, e1, e2, _, _, h1, h2, _, _, _⟩ := (HCel.out j hj).ex
    exact ⟨rn, jn, e1, e2, h1, h2, by rw [cellN, if_neg (by omega), Int.toNat_natCast, cellAt, e1, e2, Int.toNat_natCast, Int.toNat_natCast]⟩
  obtain ⟨rn, jn, e1, e2, h1, h2, hyj⟩ := HTxj.out
  have HYj := Hid.intro hyj
  clear hyj HTxj
  obtain ⟨gb, goff, gcap, ge, gc1, gc2, gbl, gx, _⟩ := At.get (HG.out.kept HP.out.b) hj
  have X0 := HP.out.xT
  have X1 := HP.out.xG
  rw [ge] at X1
  obtain ⟨x0, x1, x2, x3, x4⟩ := gx
  rw [e1] at x0
  rw [e2] at x4
  obtain ⟨rb, roff, rcap, re, rc1, rc2, rbl, u, hu0, _, hu⟩ := At.get (HR.out.kept HP.out.b) h1
  rw [re] at X0
  obtain ⟨qb, qoff, qcap, qe, qc1, qc2, qbl, hv, hsl⟩ := At.get hu h2
  subst qe
  obtain ⟨v0, v1, v2, v3, v4, v5, v6, v7, v8, v9, v10⟩ := hv
  have l1 := lt_of X0
  have l2 := lt_of X1
  have m0 := cellB (p := 3) X0
  have m1 := cellB (p := 2) X1
  have m2 := x0
  have m4 := x4
  have m3 := hu0
  have n0 := v0
  have n1 := v1
  have n2 := v2
  have n3 := v3
  have n4 := v4
  have n5 := v5
  have n6 := v6
  have n7 := v7
  have n8 := v8
  have n9 := v9
  have n10 := v10
  unfold maxLen at rc2 qc2 gc2
  generalize (t.rows.getD rn dR).cells.getD jn dC = y2 at *
  generalize (t.rows.getD rn dR).cells.length = rl at h2 m3 qc1
  clear hu hu0 X0 X1 v0 v1 v2 v3 v4 v5 v6 v7 v8 v9 v10 hsl x0 x1 x2 x3 x4 e1 e2 ge re
  have HP5 := Hid.intro (HP.out.kept (Nat.le_of_lt l1) (k_drew (k_alloc (Below.refl _ _) (.cells #[.string y2.s, .int .i64 y2.c, .int .i64 y2.r, .int .i64 y2.a1, .int .i64 y2.b1, .int .i64 y2.a2, .int .i64 y2.b2, .int .i64 y2.a3, .int .i64 y2.b3, .int .i64 y2.a4, .int .i64 y2.b4] 89))))
  have HCa : Hid ((W.alloc (.cells #[.string y2.s, .int .i64 y2.c, .int .i64 y2.r, .int .i64 y2.a1, .int .i64 y2.b1, .int .i64 y2.a2, .int .i64 y2.b2, .int .i64 y2.a3, .int .i64 y2.b3, .int .i64 y2.a4, .int .i64 y2.b4] 89)).drew.heap[W.heap.size]? = some (.cells #[.string y2.s, .int .i64 y2.c, .int .i64 y2.r, .int .i64 y2.a1, .int .i64 y2.b1, .int .i64 y2.a2, .int .i64 y2.b2, .int .i64 y2.a3, .int .i64 y2.b3, .int .i64 y2.a4, .int .i64 y2.b4] 89)) := newestB W (.cells #[.string y2.s, .int .i64 y2.c, .int .i64 y2.r, .int .i64 y2.a1, .int .i64 y2.b1, .int .i64 y2.a2, .int .i64 y2.b2, .int .i64 y2.a3, .int .i64 y2.b3, .int .i64 y2.a4, .int .i64 y2.b4] 89)
  have hlt : w.heap.size + 1 + 1 + 1 + 1 < W.heap.size := lt_of HP.out.xU
  go_region
  clear m0 m1 m2 m3 m4 n0 n1 n2 n3 n4 n5 n6 n7 n8 n9 n10 HP l1 l2 gc1 gc2 gbl rc1 rc2 rbl qc1 qc2 qbl h1 h2
  generalize (W.alloc (.cells #[.string y2.s, .int .i64 y2.c, .int .i64 y2.r, .int .i64 y2.a1, .int .i64 y2.b1, .int .i64 y2.a2, .int .i64 y2.b2, .int .i64 y2.a3, .int .i64 y2.b3, .int .i64 y2.a4, .int .i64 y2.b4] 89)).drew = Wa at HP5 HCa ⊢
  generalize W.heap.size = cb at HCa hlt ⊢
  as_aux_lemma =>
    obtain ⟨⟨c0, c1, c2, c3, c4, c5, c6, c7, c8, c9, c10⟩, _⟩ := cells11 HCa.out
    obtain ⟨⟨d0, d1⟩, g0, g1⟩ := two2 HP5.out.xU
    have HP6 := Hid.intro (HP5.out.setU y2.a4 y2.b4)
    have HCb := Hid.intro (((set2 Wa (w.heap.size + 1 + 1 + 1 + 1) (.int .i64 y2.a4) (.int .i64 y2.b4)).block cb (lt_of HCa.out) (by omega)).trans HCa.out)
    clear HP5 HCa
    go_upto_region 10 with fail
    generalize (Wa.setCell ⟨w.heap.size + 1 + 1 + 1 + 1, 0, none⟩ (.int .i64 y2.a4)).setCell ⟨w.heap.size + 1 + 1 + 1 + 1, 1, none⟩ (.int .i64 y2.b4) = Wb at HP6 HCb ⊢
    clear c0 c1 c2 c3 c4 c5 c6 c7 c8 c9 c10 d0 d1 g0 g1
    have HP5 := HP6
    have HCa := HCb
    clear HP6 HCb
    rename World => Wa
    as_aux_lemma =>
      obtain ⟨⟨c0, c1, c2, c3, c4, c5, c6, c7, c8, c9, c10⟩, _⟩ := cells11 HCa.out
      obtain ⟨⟨d0, d1⟩, g0, g1⟩ := two2 HP5.out.xU
      have HP6 := Hid.intro (HP5.out.setU y2.a1 y2.b1)
      have HCb := Hid.intro (((set2 Wa (w.heap.size + 1 + 1 + 1 + 1) (.int .i64 y2.a1) (.int .i64 y2.b1)).block cb (lt_of HCa.out) (by omega)).trans HCa.out)
      clear HP5 HCa
      go_upto_region 12 with fail
      generalize (Wa.setCell ⟨w.heap.size + 1 + 1 + 1 + 1, 0, none⟩ (.int .i64 y2.a1)).setCell ⟨w.heap.size + 1 + 1 + 1 + 1, 1, none⟩ (.int .i64 y2.b1) = Wb at HP6 HCb ⊢
      clear c0 c1 c2 c3 c4 c5 c6 c7 c8 c9 c10 d0 d1 g0 g1
      have HP5 := HP6
      have HCa := HCb
      clear HP6 HCb
      rename World => Wa
      have HP := HP5
      clear HP5 HCa hlt
      rename World => W
      as_aux_lemma =>
        obtain ⟨p0, p1, p2⟩ := HP.out.x_is (show x = ⟨y2.a1, y2.b1, (j : Int)⟩ by rw [HM.out, is_y rfl rfl, HYj.out])
        obtain ⟨⟨d0, d1⟩, _, _⟩ := two2 HP.out.xO
        obtain ⟨⟨d2, d3⟩, _, _⟩ := two2 HP.out.xU
        clear HM
        have e1 := neg_ne j
        have e2 := not_neg j
        go_wp2
        go_ret
        exact ⟨rfl, HP.out.b⟩
end Go.Proofs.Ytfkkhfiiokhnaag
