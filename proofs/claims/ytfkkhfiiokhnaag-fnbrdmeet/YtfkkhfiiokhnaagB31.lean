/-
  PROVED HERE: the law's own pwMeets says yes of the border that is shown between two cells of a drawn table. Also: the law's own pwMeets says yes of the border that is shown between two cells of a drawn table. Also: the law's own pwMeets says yes of the border that is shown between two cells of a drawn table.
-/
import Derived.Test.YtfkkhfiiokhnaagB30
namespace Go.Proofs.Ytfkkhfiiokhnaag
open Go.RowKit Go.BigFrame
set_option maxRecDepth 100000 in
set_option maxHeartbeats 4000000 in
theorem pwMeets_across_kn (ac ar ag : Option Addr) (cc cr cg : Nat) (t : T) (hD : Drawn t) (k : Nat) (hk : k < (gOf t).cells.length) (x : Fr) (hx : x = meetF ⟨(cellN t (k : Int)).a3, (cellN t (k : Int)).b3, (k : Int)⟩ ⟨(cellN t (-1)).a1, (cellN t (-1)).b1, -1⟩) (w : World) {z zg : Nat} (hW : RowsAt w z (.slice ar t.rows.length cr) t.rows) (hG : GsAt w zg (.slice ag (gOf t).cells.length cg) (gOf t).cells) :
    Calls Try.prog 30 #[.agg #[.slice ac t.cols.length cc, .int .i64 t.head, .int .i64 t.foot, .slice ar t.rows.length cr, .int .i64 t.gap], .agg #[.int .i64 (gOf t).rows, .int .i64 (gOf t).cols, .slice ag (gOf t).cells.length cg], .int .i64 (k : Int), .int .i64 (-1), .agg #[.int .i64 x.s, .int .i64 x.w, .int .i64 x.c], .bool true] w fun e w' => e = .returned (.bool true) ∧ Below w.heap.size w w' := by
  have hmx : Try.prog.follows .mixedOrders = true := by kernel_rfl
  obtain ⟨h40, C, hgc, hC88, hcel⟩ := cel_of hD
  have HCel := Hid.intro hcel
  have HM := Hid.intro hx
  have HR := Hid.intro hW
  have HG := Hid.intro hG
  clear hgc hC88 hcel hx hW hG hD
  have HP : Hid (PM w w.heap.size ac ar ag cc cr cg t x 0 0 0 0 (((((w.alloc (.cells #[.slice ac t.cols.length cc, .int .i64 t.head, .int .i64 t.foot, .slice ar t.rows.length cr, .int .i64 t.gap] 49)).alloc (.cells #[.int .i64 (gOf t).rows, .int .i64 (gOf t).cols, .slice ag (gOf t).cells.length cg] 56)).alloc (.cells #[.int .i64 x.s, .int .i64 x.w, .int .i64 x.c] 42)).alloc (.cells #[.int .i64 0, .int .i64 0] 34)).alloc (.cells #[.int .i64 0, .int .i64 0] 34))) := ⟨k_alloc (k_alloc (k_alloc (k_alloc (k_alloc (Below.refl _ _) _) _) _) _) _, more (more (more (more (newestK rfl _) _) _) _) _, more (more (more (newestK (by simp) _) _) _) _, more (more (newestK (by simp) _) _) _, more (newestK (by simp) _) _, newestK (by simp) _⟩
  go_enter Try.func30, Try.ntmps30
  go_upto_region 2 with fail
  generalize ((((w.alloc (.cells #[.slice ac t.cols.length cc, .int .i64 t.head, .int .i64 t.foot, .slice ar t.rows.length cr, .int .i64 t.gap] 49)).alloc (.cells #[.int .i64 (gOf t).rows, .int .i64 (gOf t).cols, .slice ag (gOf t).cells.length cg] 56)).alloc (.cells #[.int .i64 x.s, .int .i64 x.w, .int .i64 x.c] 42)).alloc (.cells #[.int .i64 0, .int .i64 0] 34)).alloc (.cells #[.int .i64 0, .int .i64 0] 34) = W at HP ⊢
  go_upto_region 3 with fail
  have HTxk : Hid (∃ rn jn : Nat, ((gOf t).cells.getD k dG).row = rn ∧ ((gOf t).cells.getD k dG).ins = jn ∧ rn < t.rows.length ∧ jn < (t.rows.getD rn dR).cells.length ∧ cellN t (k : Int) = (t.rows.getD rn dR).cells.getD jn dC) := by
    obtain ⟨rn, jn, cn, mn, e1, e2, _, _, h1, h2, _, _, _⟩ := (HCel.out k hk).ex
    exact ⟨rn, jn, e1, e2, h1, h2, by rw [cellN, if_neg (by omega), Int.toNat_natCast, cellAt, e1, e2, Int.toNat_natCast, Int.toNat_natCast]⟩
  obtain ⟨rn, jn, e1, e2, h1, h2, hyk⟩ := HTxk.out
  have HYk := Hid.intro hyk
  clear hyk HTxk
  obtain ⟨gb, goff, gcap, ge, gc1, gc2, gbl, gx, _⟩ := At.get (HG.out.kept HP.out.b) hk
  have X0 := HP.out.xT
  have X1 := HP.out.xG
  rw [ge] at X1
  obtain ⟨x0, x1, x2, x3, x4⟩ := gx
  rw [e1] at x0
  rw [e2] at x4
  obtain ⟨rb, roff, rcap, re, rc1, rc2, rbl, u, hu0, _, hu⟩ := At.get (HR.out.kept HP.out.b) h1
  rw [re] at X0
  obtain ⟨qb, qoff, qcap, qe, qc1, qc2, qbl, hv, hsl⟩ := At.get hu h2
  subst qe
  obtain ⟨v0, v1, v2, v3, v4, v5, v6, v7, v8, v9, v10⟩ := hv
  have l1 := lt_of X0
  have l2 := lt_of X1
  have m0 := cellB (p := 3) X0
  have m1 := cellB (p := 2) X1
  have m2 := x0
  have m4 := x4
  have m3 := hu0
  have n0 := v0
  have n1 := v1
  have n2 := v2
  have n3 := v3
  have n4 := v4
  have n5 := v5
  have n6 := v6
  have n7 := v7
  have n8 := v8
  have n9 := v9
  have n10 := v10
  unfold maxLen at rc2 qc2 gc2
  generalize (t.rows.getD rn dR).cells.getD jn dC = y at *
  generalize (t.rows.getD rn dR).cells.length = rl at h2 m3 qc1
  clear hu hu0 X0 X1 v0 v1 v2 v3 v4 v5 v6 v7 v8 v9 v10 hsl x0 x1 x2 x3 x4 e1 e2 ge re
  have HP5 := Hid.intro (HP.out.kept (Nat.le_of_lt l1) (k_drew (k_alloc (Below.refl _ _) (.cells #[.string y.s, .int .i64 y.c, .int .i64 y.r, .int .i64 y.a1, .int .i64 y.b1, .int .i64 y.a2, .int .i64 y.b2, .int .i64 y.a3, .int .i64 y.b3, .int .i64 y.a4, .int .i64 y.b4] 89))))
  have HCa : Hid ((W.alloc (.cells #[.string y.s, .int .i64 y.c, .int .i64 y.r, .int .i64 y.a1, .int .i64 y.b1, .int .i64 y.a2, .int .i64 y.b2, .int .i64 y.a3, .int .i64 y.b3, .int .i64 y.a4, .int .i64 y.b4] 89)).drew.heap[W.heap.size]? = some (.cells #[.string y.s, .int .i64 y.c, .int .i64 y.r, .int .i64 y.a1, .int .i64 y.b1, .int .i64 y.a2, .int .i64 y.b2, .int .i64 y.a3, .int .i64 y.b3, .int .i64 y.a4, .int .i64 y.b4] 89)) := newestB W (.cells #[.string y.s, .int .i64 y.c, .int .i64 y.r, .int .i64 y.a1, .int .i64 y.b1, .int .i64 y.a2, .int .i64 y.b2, .int .i64 y.a3, .int .i64 y.b3, .int .i64 y.a4, .int .i64 y.b4] 89)
  have hlt : w.heap.size + 1 + 1 + 1 + 1 < W.heap.size := lt_of HP.out.xU
  go_region
  clear m0 m1 m2 m3 m4 n0 n1 n2 n3 n4 n5 n6 n7 n8 n9 n10 HP l1 l2 gc1 gc2 gbl rc1 rc2 rbl qc1 qc2 qbl h1 h2
  generalize (W.alloc (.cells #[.string y.s, .int .i64 y.c, .int .i64 y.r, .int .i64 y.a1, .int .i64 y.b1, .int .i64 y.a2, .int .i64 y.b2, .int .i64 y.a3, .int .i64 y.b3, .int .i64 y.a4, .int .i64 y.b4] 89)).drew = Wa at HP5 HCa ⊢
  generalize W.heap.size = cb at HCa hlt ⊢
  as_aux_lemma =>
    obtain ⟨⟨c0, c1, c2, c3, c4, c5, c6, c7, c8, c9, c10⟩, _⟩ := cells11 HCa.out
    obtain ⟨⟨d0, d1⟩, g0, g1⟩ := two2 HP5.out.xO
    have HP6 := Hid.intro (HP5.out.setO y.a2 y.b2)
    have HCb := Hid.intro (((set2 Wa (w.heap.size + 1 + 1 + 1) (.int .i64 y.a2) (.int .i64 y.b2)).block cb (lt_of HCa.out) (by omega)).trans HCa.out)
    clear HP5 HCa
    go_upto_region 5 with fail
    generalize (Wa.setCell ⟨w.heap.size + 1 + 1 + 1, 0, none⟩ (.int .i64 y.a2)).setCell ⟨w.heap.size + 1 + 1 + 1, 1, none⟩ (.int .i64 y.b2) = Wb at HP6 HCb ⊢
    clear c0 c1 c2 c3 c4 c5 c6 c7 c8 c9 c10 d0 d1 g0 g1
    have HP5 := HP6
    have HCa := HCb
    clear HP6 HCb
    rename World => Wa
    as_aux_lemma =>
      obtain ⟨⟨c0, c1, c2, c3, c4, c5, c6, c7, c8, c9, c10⟩, _⟩ := cells11 HCa.out
      obtain ⟨⟨d0, d1⟩, g0, g1⟩ := two2 HP5.out.xO
      have HP6 := Hid.intro (HP5.out.setO y.a3 y.b3)
      have HCb := Hid.intro (((set2 Wa (w.heap.size + 1 + 1 + 1) (.int .i64 y.a3) (.int .i64 y.b3)).block cb (lt_of HCa.out) (by omega)).trans HCa.out)
      clear HP5 HCa
      go_upto_region 7 with fail
      generalize (Wa.setCell ⟨w.heap.size + 1 + 1 + 1, 0, none⟩ (.int .i64 y.a3)).setCell ⟨w.heap.size + 1 + 1 + 1, 1, none⟩ (.int .i64 y.b3) = Wb at HP6 HCb ⊢
      clear c0 c1 c2 c3 c4 c5 c6 c7 c8 c9 c10 d0 d1 g0 g1
      have HP5 := HP6
      have HCa := HCb
      clear HP6 HCb
      rename World => Wa
      have HP := HP5
      clear HP5 HCa hlt
      rename World => W
      as_aux_lemma =>
        obtain ⟨p0, p1, p2⟩ := HP.out.x_is (show x = ⟨y.a3, y.b3, (k : Int)⟩ by rw [HM.out, is_x rfl rfl, HYk.out])
        obtain ⟨⟨d0, d1⟩, _, _⟩ := two2 HP.out.xO
        obtain ⟨⟨d2, d3⟩, _, _⟩ := two2 HP.out.xU
        clear HM
        have e1 := ne_neg k
        have e2 := not_neg k
        go_wp2
        go_ret
        exact ⟨rfl, HP.out.b⟩
end Go.Proofs.Ytfkkhfiiokhnaag
namespace Go.Proofs.Ytfkkhfiiokhnaag
open Go.RowKit Go.BigFrame
set_option maxRecDepth 100000 in
set_option maxHeartbeats 4000000 in
theorem pwMeets_across_kj (ac ar ag : Option Addr) (cc cr cg : Nat) (t : T) (hD : Drawn t) (k : Nat) (hk : k < (gOf t).cells.length) (j : Nat) (hj : j < (gOf t).cells.length) (x : Fr) (hx : x = meetF ⟨(cellN t (k : Int)).a3, (cellN t (k : Int)).b3, (k : Int)⟩ ⟨(cellN t (j : Int)).a1, (cellN t (j : Int)).b1, (j : Int)⟩) (w : World) {z zg : Nat} (hW : RowsAt w z (.slice ar t.rows.length cr) t.rows) (hG : GsAt w zg (.slice ag (gOf t).cells.length cg) (gOf t).cells) :
    Calls Try.prog 30 #[.agg #[.slice ac t.cols.length cc, .int .i64 t.head, .int .i64 t.foot, .slice ar t.rows.length cr, .int .i64 t.gap], .agg #[.int .i64 (gOf t).rows, .int .i64 (gOf t).cols, .slice ag (gOf t).cells.length cg], .int .i64 (k : Int), .int .i64 (j : Int), .agg #[.int .i64 x.s, .int .i64 x.w, .int .i64 x.c], .bool true] w fun e w' => e = .returned (.bool true) ∧ Below w.heap.size w w' := by
  have hmx : Try.prog.follows .mixedOrders = true := by kernel_rfl
  obtain ⟨h40, C, hgc, hC88, hcel⟩ := cel_of hD
  have HCel := Hid.intro hcel
  have HM := Hid.intro hx
  have HR := Hid.intro hW
  have HG := Hid.intro hG
  clear hgc hC88 hcel hx hW hG hD
  have HP : Hid (PM w w.heap.size ac ar ag cc cr cg t x 0 0 0 0 (((((w.alloc (.cells #[.slice ac t.cols.length cc, .int .i64 t.head, .int .i64 t.foot, .slice ar t.rows.length cr, .int .i64 t.gap] 49)).alloc (.cells #[.int .i64 (gOf t).rows, .int .i64 (gOf t).cols, .slice ag (gOf t).cells.length cg] 56)).alloc (.cells #[.int .i64 x.s, .int .i64 x.w, .int .i64 x.c] 42)).alloc (.cells #[.int .i64 0, .int .i64 0] 34)).alloc (.cells #[.int .i64 0, .int .i64 0] 34))) := ⟨k_alloc (k_alloc (k_alloc (k_alloc (k_alloc (Below.refl _ _) _) _) _) _) _, more (more (more (more (newestK rfl _) _) _) _) _, more (more (more (newestK (by simp) _) _) _) _, more (more (newestK (by simp) _) _) _, more (newestK (by simp) _) _, newestK (by simp) _⟩
  go_enter Try.func30, Try.ntmps30
  go_upto_region 2 with fail
  generalize ((((w.alloc (.cells #[.slice ac t.cols.length cc, .int .i64 t.head, .int .i64 t.foot, .slice ar t.rows.length cr, .int .i64 t.gap] 49)).alloc (.cells #[.int .i64 (gOf t).rows, .int .i64 (gOf t).cols, .slice ag (gOf t).cells.length cg] 56)).alloc (.cells #[.int .i64 x.s, .int .i64 x.w, .int .i64 x.c] 42)).alloc (.cells #[.int .i64 0, .int .i64 0] 34)).alloc (.cells #[.int .i64 0, .int .i64 0] 34) = W at HP ⊢
  go_upto_region 3 with fail
  have HTxk : Hid (∃ rn jn : Nat, ((gOf t).cells.getD k dG).row = rn ∧ ((gOf t).cells.getD k dG).ins = jn ∧ rn < t.rows.length ∧ jn < (t.rows.getD rn dR).cells.length ∧ cellN t (k : Int) = (t.rows.getD rn dR).cells.getD jn dC) := by
    obtain ⟨rn, jn, cn, mn, e1, e2, _, _, h1, h2, _, _, _⟩ := (HCel.out k hk).ex
    exact ⟨rn, jn, e1, e2, h1, h2, by rw [cellN, if_neg (by omega), Int.toNat_natCast, cellAt, e1, e2, Int.toNat_natCast, Int.toNat_natCast]⟩
  obtain ⟨rn, jn, e1, e2, h1, h2, hyk⟩ := HTxk.out
  have HYk := Hid.intro hyk
  clear hyk HTxk
  obtain ⟨gb, goff, gcap, ge, gc1, gc2, gbl, gx, _⟩ := At.get (HG.out.kept HP.out.b) hk
  have X0 := HP.out.xT
  have X1 := HP.out.xG
  rw [ge] at X1
  obtain ⟨x0, x1, x2, x3, x4⟩ := gx
  rw [e1] at x0
  rw [e2] at x4
  obtain ⟨rb, roff, rcap, re, rc1, rc2, rbl, u, hu0, _, hu⟩ := At.get (HR.out.kept HP.out.b) h1
  rw [re] at X0
  obtain ⟨qb, qoff, qcap, qe, qc1, qc2, qbl, hv, hsl⟩ := At.get hu h2
  subst qe
  obtain ⟨v0, v1, v2, v3, v4, v5, v6, v7, v8, v9, v10⟩ := hv
  have l1 := lt_of X0
  have l2 := lt_of X1
  have m0 := cellB (p := 3) X0
  have m1 := cellB (p := 2) X1
  have m2 := x0
  have m4 := x4
  have m3 := hu0
  have n0 := v0
  have n1 := v1
  have n2 := v2
  have n3 := v3
  have n4 := v4
  have n5 := v5
  have n6 := v6
  have n7 := v7
  have n8 := v8
  have n9 := v9
  have n10 := v10
  unfold maxLen at rc2 qc2 gc2
  generalize (t.rows.getD rn dR).cells.getD jn dC = y at *
  generalize (t.rows.getD rn dR).cells.length = rl at h2 m3 qc1
  clear hu hu0 X0 X1 v0 v1 v2 v3 v4 v5 v6 v7 v8 v9 v10 hsl x0 x1 x2 x3 x4 e1 e2 ge re
  have HP5 := Hid.intro (HP.out.kept (Nat.le_of_lt l1) (k_drew (k_alloc (Below.refl _ _) (.cells #[.string y.s, .int .i64 y.c, .int .i64 y.r, .int .i64 y.a1, .int .i64 y.b1, .int .i64 y.a2, .int .i64 y.b2, .int .i64 y.a3, .int .i64 y.b3, .int .i64 y.a4, .int .i64 y.b4] 89))))
  have HCa : Hid ((W.alloc (.cells #[.string y.s, .int .i64 y.c, .int .i64 y.r, .int .i64 y.a1, .int .i64 y.b1, .int .i64 y.a2, .int .i64 y.b2, .int .i64 y.a3, .int .i64 y.b3, .int .i64 y.a4, .int .i64 y.b4] 89)).drew.heap[W.heap.size]? = some (.cells #[.string y.s, .int .i64 y.c, .int .i64 y.r, .int .i64 y.a1, .int .i64 y.b1, .int .i64 y.a2, .int .i64 y.b2, .int .i64 y.a3, .int .i64 y.b3, .int .i64 y.a4, .int .i64 y.b4] 89)) := newestB W (.cells #[.string y.s, .int .i64 y.c, .int .i64 y.r, .int .i64 y.a1, .int .i64 y.b1, .int .i64 y.a2, .int .i64 y.b2, .int .i64 y.a3, .int .i64 y.b3, .int .i64 y.a4, .int .i64 y.b4] 89)
  have hlt : w.heap.size + 1 + 1 + 1 + 1 < W.heap.size := lt_of HP.out.xU
  go_region
  clear m0 m1 m2 m3 m4 n0 n1 n2 n3 n4 n5 n6 n7 n8 n9 n10 HP l1 l2 gc1 gc2 gbl rc1 rc2 rbl qc1 qc2 qbl h1 h2
  generalize (W.alloc (.cells #[.string y.s, .int .i64 y.c, .int .i64 y.r, .int .i64 y.a1, .int .i64 y.b1, .int .i64 y.a2, .int .i64 y.b2, .int .i64 y.a3, .int .i64 y.b3, .int .i64 y.a4, .int .i64 y.b4] 89)).drew = Wa at HP5 HCa ⊢
  generalize W.heap.size = cb at HCa hlt ⊢
  as_aux_lemma =>
    obtain ⟨⟨c0, c1, c2, c3, c4, c5, c6, c7, c8, c9, c10⟩, _⟩ := cells11 HCa.out
    obtain ⟨⟨d0, d1⟩, g0, g1⟩ := two2 HP5.out.xO
    have HP6 := Hid.intro (HP5.out.setO y.a2 y.b2)
    have HCb := Hid.intro (((set2 Wa (w.heap.size + 1 + 1 + 1) (.int .i64 y.a2) (.int .i64 y.b2)).block cb (lt_of HCa.out) (by omega)).trans HCa.out)
    clear HP5 HCa
    go_upto_region 5 with fail
    generalize (Wa.setCell ⟨w.heap.size + 1 + 1 + 1, 0, none⟩ (.int .i64 y.a2)).setCell ⟨w.heap.size + 1 + 1 + 1, 1, none⟩ (.int .i64 y.b2) = Wb at HP6 HCb ⊢
    clear c0 c1 c2 c3 c4 c5 c6 c7 c8 c9 c10 d0 d1 g0 g1
    have HP5 := HP6
    have HCa := HCb
    clear HP6 HCb
    rename World => Wa
    as_aux_lemma =>
      obtain ⟨⟨c0, c1, c2, c3, c4, c5, c6, c7, c8, c9, c10⟩, _⟩ := cells11 HCa.out
      obtain ⟨⟨d0, d1⟩, g0, g1⟩ := two2 HP5.out.xO
      have HP6 := Hid.intro (HP5.out.setO y.a3 y.b3)
      have HCb := Hid.intro (((set2 Wa (w.heap.size + 1 + 1 + 1) (.int .i64 y.a3) (.int .i64 y.b3)).block cb (lt_of HCa.out) (by omega)).trans HCa.out)
      clear HP5 HCa
      go_upto_region 7 with fail
      generalize (Wa.setCell ⟨w.heap.size + 1 + 1 + 1, 0, none⟩ (.int .i64 y.a3)).setCell ⟨w.heap.size + 1 + 1 + 1, 1, none⟩ (.int .i64 y.b3) = Wb at HP6 HCb ⊢
      clear c0 c1 c2 c3 c4 c5 c6 c7 c8 c9 c10 d0 d1 g0 g1
      have HP5 := HP6
      have HCa := HCb
      clear HP6 HCb
      rename World => Wa
      have HP := HP5
      clear HP5 HCa hlt
      rename World => W
      as_aux_lemma =>
        go_upto_region 8 with fail
        have HTxj : Hid (∃ rn jn : Nat, ((gOf t).cells.getD j dG).row = rn ∧ ((gOf t).cells.getD j dG).ins = jn ∧ rn < t.rows.length ∧ jn < (t.rows.getD rn dR).cells.length ∧ cellN t (j : Int) = (t.rows.getD rn dR).cells.getD jn dC) := by
          obtain ⟨rn, jn, cn, mn, e1, e2, _, _, h1, h2, _, _, _⟩ := (HCel.out j hj).ex
          exact ⟨rn, jn, e1, e2, h1, h2, by rw [cellN, if_neg (by omega), Int.toNat_natCast, cellAt, e1, e2, Int.toNat_natCast, Int.toNat_natCast]⟩
        obtain ⟨rn, jn, e1, e2, h1, h2, hyj⟩ := HTxj.out
        have HYj := Hid.intro hyj
        clear hyj HTxj
        obtain ⟨gb, goff, gcap, ge, gc1, gc2, gbl, gx, _⟩ := At.get (HG.out.kept HP.out.b) hj
        have X0 := HP.out.xT
        have X1 := HP.out.xG
        rw [ge] at X1
        obtain ⟨x0, x1, x2, x3, x4⟩ := gx
        rw [e1] at x0
        rw [e2] at x4
        obtain ⟨rb, roff, rcap, re, rc1, rc2, rbl, u, hu0, _, hu⟩ := At.get (HR.out.kept HP.out.b) h1
        rw [re] at X0
        obtain ⟨qb, qoff, qcap, qe, qc1, qc2, qbl, hv, hsl⟩ := At.get hu h2
        subst qe
        obtain ⟨v0, v1, v2, v3, v4, v5, v6, v7, v8, v9, v10⟩ := hv
        have l1 := lt_of X0
        have l2 := lt_of X1
        have m0 := cellB (p := 3) X0
        have m1 := cellB (p := 2) X1
        have m2 := x0
        have m4 := x4
        have m3 := hu0
        have n0 := v0
        have n1 := v1
        have n2 := v2
        have n3 := v3
        have n4 := v4
        have n5 := v5
        have n6 := v6
        have n7 := v7
        have n8 := v8
        have n9 := v9
        have n10 := v10
        unfold maxLen at rc2 qc2 gc2
        generalize (t.rows.getD rn dR).cells.getD jn dC = y2 at *
        generalize (t.rows.getD rn dR).cells.length = rl at h2 m3 qc1
        clear hu hu0 X0 X1 v0 v1 v2 v3 v4 v5 v6 v7 v8 v9 v10 hsl x0 x1 x2 x3 x4 e1 e2 ge re
        have HP5 := Hid.intro (HP.out.kept (Nat.le_of_lt l1) (k_drew (k_alloc (Below.refl _ _) (.cells #[.string y2.s, .int .i64 y2.c, .int .i64 y2.r, .int .i64 y2.a1, .int .i64 y2.b1, .int .i64 y2.a2, .int .i64 y2.b2, .int .i64 y2.a3, .int .i64 y2.b3, .int .i64 y2.a4, .int .i64 y2.b4] 89))))
        have HCa : Hid ((W.alloc (.cells #[.string y2.s, .int .i64 y2.c, .int .i64 y2.r, .int .i64 y2.a1, .int .i64 y2.b1, .int .i64 y2.a2, .int .i64 y2.b2, .int .i64 y2.a3, .int .i64 y2.b3, .int .i64 y2.a4, .int .i64 y2.b4] 89)).drew.heap[W.heap.size]? = some (.cells #[.string y2.s, .int .i64 y2.c, .int .i64 y2.r, .int .i64 y2.a1, .int .i64 y2.b1, .int .i64 y2.a2, .int .i64 y2.b2, .int .i64 y2.a3, .int .i64 y2.b3, .int .i64 y2.a4, .int .i64 y2.b4] 89)) := newestB W (.cells #[.string y2.s, .int .i64 y2.c, .int .i64 y2.r, .int .i64 y2.a1, .int .i64 y2.b1, .int .i64 y2.a2, .int .i64 y2.b2, .int .i64 y2.a3, .int .i64 y2.b3, .int .i64 y2.a4, .int .i64 y2.b4] 89)
        have hlt : w.heap.size + 1 + 1 + 1 + 1 < W.heap.size := lt_of HP.out.xU
        go_region
        clear m0 m1 m2 m3 m4 n0 n1 n2 n3 n4 n5 n6 n7 n8 n9 n10 HP l1 l2 gc1 gc2 gbl rc1 rc2 rbl qc1 qc2 qbl h1 h2
        generalize (W.alloc (.cells #[.string y2.s, .int .i64 y2.c, .int .i64 y2.r, .int .i64 y2.a1, .int .i64 y2.b1, .int .i64 y2.a2, .int .i64 y2.b2, .int .i64 y2.a3, .int .i64 y2.b3, .int .i64 y2.a4, .int .i64 y2.b4] 89)).drew = Wa at HP5 HCa ⊢
        generalize W.heap.size = cb at HCa hlt ⊢
        as_aux_lemma =>
          obtain ⟨⟨c0, c1, c2, c3, c4, c5, c6, c7, c8, c9, c10⟩, _⟩ := cells11 HCa.out
          obtain ⟨⟨d0, d1⟩, g0, g1⟩ := two2 HP5.out.xU
          have HP6 := Hid.intro (HP5.out.setU y2.a4 y2.b4)
          have HCb := Hid.intro (((set2 Wa (w.heap.size + 1 + 1 + 1 + 1) (.int .i64 y2.a4) (.int .i64 y2.b4)).block cb (lt_of HCa.out) (by omega)).trans HCa.out)
          clear HP5 HCa
          go_upto_region 10 with fail
          generalize (Wa.setCell ⟨w.heap.size + 1 + 1 + 1 + 1, 0, none⟩ (.int .i64 y2.a4)).setCell ⟨w.heap.size + 1 + 1 + 1 + 1, 1, none⟩ (.int .i64 y2.b4) = Wb at HP6 HCb ⊢
          clear c0 c1 c2 c3 c4 c5 c6 c7 c8 c9 c10 d0 d1 g0 g1
          have HP5 := HP6
          have HCa := HCb
          clear HP6 HCb
          rename World => Wa
          as_aux_lemma =>
            obtain ⟨⟨c0, c1, c2, c3, c4, c5, c6, c7, c8, c9, c10⟩, _⟩ := cells11 HCa.out
            obtain ⟨⟨d0, d1⟩, g0, g1⟩ := two2 HP5.out.xU
            have HP6 := Hid.intro (HP5.out.setU y2.a1 y2.b1)
            have HCb := Hid.intro (((set2 Wa (w.heap.size + 1 + 1 + 1 + 1) (.int .i64 y2.a1) (.int .i64 y2.b1)).block cb (lt_of HCa.out) (by omega)).trans HCa.out)
            clear HP5 HCa
            go_upto_region 12 with fail
            generalize (Wa.setCell ⟨w.heap.size + 1 + 1 + 1 + 1, 0, none⟩ (.int .i64 y2.a1)).setCell ⟨w.heap.size + 1 + 1 + 1 + 1, 1, none⟩ (.int .i64 y2.b1) = Wb at HP6 HCb ⊢
            clear c0 c1 c2 c3 c4 c5 c6 c7 c8 c9 c10 d0 d1 g0 g1
            have HP5 := HP6
            have HCa := HCb
            clear HP6 HCb
            rename World => Wa
            have HP := HP5
            clear HP5 HCa hlt
            rename World => W
            as_aux_lemma =>
              by_cases hkj : k = j
              · subst hkj
                obtain ⟨p0, p1, p2⟩ := HP.out.x_is (HM.out.trans (meet_same rfl))
                obtain ⟨⟨d0, d1⟩, _, _⟩ := two2 HP.out.xO
                obtain ⟨⟨d2, d3⟩, _, _⟩ := two2 HP.out.xU
                clear HM
                go_wp2
                go_ret
                exact ⟨rfl, HP.out.b⟩
              · have e1 := nat_ne hkj
                have e2 := not_neg k
                have e3 := not_neg j
                obtain ⟨⟨d0, d1⟩, _, _⟩ := two2 HP.out.xO
                obtain ⟨⟨d2, d3⟩, _, _⟩ := two2 HP.out.xU
                go_wp2_with fail
                refine (implBrdBeats _ _ _ _ _).mono ?_
                cases hbt : beatsB y2.a1 y2.b1 y.a3 y.b3 with
                | true =>
                  have HBT := Hid.intro hbt
                  rintro e w1 ⟨rfl, hb1⟩
                  have HP1 := Hid.intro (HP.out.kept (Nat.le_of_lt (lt_of HP.out.xT)) hb1)
                  clear HP hb1 hbt d0 d1 d2 d3
                  have HP := HP1
                  clear HP1
                  obtain ⟨p0, p1, p2⟩ := HP.out.x_is (show x = ⟨y2.a1, y2.b1, (j : Int)⟩ by rw [HM.out, is_by rfl rfl hkj (by show beatsB (cellN t (j : Int)).a1 (cellN t (j : Int)).b1 (cellN t (k : Int)).a3 (cellN t (k : Int)).b3 = _; rw [HYj.out, HYk.out]; exact HBT.out), HYj.out])
                  obtain ⟨⟨d0, d1⟩, _, _⟩ := two2 HP.out.xO
                  obtain ⟨⟨d2, d3⟩, _, _⟩ := two2 HP.out.xU
                  clear HM
                  go_wp2
                  go_ret
                  exact ⟨rfl, HP.out.b⟩
                | false =>
                  have HBT := Hid.intro hbt
                  rintro e w1 ⟨rfl, hb1⟩
                  have HP1 := Hid.intro (HP.out.kept (Nat.le_of_lt (lt_of HP.out.xT)) hb1)
                  clear HP hb1 hbt d0 d1 d2 d3
                  have HP := HP1
                  clear HP1
                  obtain ⟨p0, p1, p2⟩ := HP.out.x_is (show x = ⟨y.a3, y.b3, (k : Int)⟩ by rw [HM.out, is_bx rfl rfl hkj (by show beatsB (cellN t (j : Int)).a1 (cellN t (j : Int)).b1 (cellN t (k : Int)).a3 (cellN t (k : Int)).b3 = _; rw [HYj.out, HYk.out]; exact HBT.out), HYk.out])
                  obtain ⟨⟨d0, d1⟩, _, _⟩ := two2 HP.out.xO
                  obtain ⟨⟨d2, d3⟩, _, _⟩ := two2 HP.out.xU
                  clear HM
                  go_wp2
                  go_ret
                  exact ⟨rfl, HP.out.b⟩
end Go.Proofs.Ytfkkhfiiokhnaag
namespace Go.Proofs.Ytfkkhfiiokhnaag
open Go.RowKit Go.BigFrame
theorem pwMeets_across (ac ar ag : Option Addr) (cc cr cg : Nat) (t : T) (hD : Drawn t) (a b : Int) (x : Fr) (hx : x = meetF ⟨(cellN t a).a3, (cellN t a).b3, a⟩ ⟨(cellN t b).a1, (cellN t b).b1, b⟩) (w : World) {z zg : Nat} (hW : RowsAt w z (.slice ar t.rows.length cr) t.rows) (hG : GsAt w zg (.slice ag (gOf t).cells.length cg) (gOf t).cells)
    (ha : a = -1 ∨ ∃ k : Nat, a = k ∧ k < (gOf t).cells.length) (hb : b = -1 ∨ ∃ k : Nat, b = k ∧ k < (gOf t).cells.length) :
    Calls Try.prog 30 #[.agg #[.slice ac t.cols.length cc, .int .i64 t.head, .int .i64 t.foot, .slice ar t.rows.length cr, .int .i64 t.gap], .agg #[.int .i64 (gOf t).rows, .int .i64 (gOf t).cols, .slice ag (gOf t).cells.length cg], .int .i64 a, .int .i64 b, .agg #[.int .i64 x.s, .int .i64 x.w, .int .i64 x.c], .bool true] w fun e w' => e = .returned (.bool true) ∧ Below w.heap.size w w' := by
  rcases ha with rfl | ⟨k, rfl, hk⟩
  · rcases hb with rfl | ⟨j, rfl, hj⟩
    · exact pwMeets_across_nn ac ar ag cc cr cg t hD x hx w hW hG
    · exact pwMeets_across_nj ac ar ag cc cr cg t hD j hj x hx w hW hG
  · rcases hb with rfl | ⟨j, rfl, hj⟩
    · exact pwMeets_across_kn ac ar ag cc cr cg t hD k hk x hx w hW hG
    · exact pwMeets_across_kj ac ar ag cc cr cg t hD k hk j hj x hx w hW hG
end Go.Proofs.Ytfkkhfiiokhnaag
