/-
  PROVED HERE: the program's at answers the cell that has a slot of a drawn table's grid, and its number; nothing that was in memory is turned. Also: the program's meet answers the border that is shown between two slots; nothing that was in memory is turned.
-/
import Derived.Test.YtfkkhfiiokhnaagB25
import Derived.Test.YtfkkhfiiokhnaagB22
import Derived.Test.YtfkkhfiiokhnaagB12
import Derived.Test.YtfkkhfiiokhnaagB23
import Derived.Deep.DeepCutAuto
namespace Go.Proofs.Ytfkkhfiiokhnaag
open Go.RowKit Go.BigFrame

/-- what is known of the region that hands a cell back, whatever has been carried out -/
structure AtJ (ac ar : Option Addr) (cc cr : Nat) (t : T) (w w1 : World) (sl : Value) (b off k : Nat) (g : GC) (y : C) (L : Nat → Bool) (W : World) (v7 v17 v18 v19 v20 v21 v22 v23 v24 v25 v26 : Value) : Prop where
  f0 : L 0 = true → v17 = .pointer (some ⟨w.heap.size, 0, none⟩)
  f1 : L 1 = true → v18 = .agg #[.slice ac t.cols.length cc, .int .i64 t.head, .int .i64 t.foot, .slice ar t.rows.length cr, .int .i64 t.gap]
  f2 : L 2 = true → v19 = .pointer (some ⟨w.heap.size, 5, none⟩)
  f3 : L 3 = true → v20 = .pointer (some ⟨w.heap.size, 7, none⟩)
  f4 : L 4 = true → v21 = sl
  f5 : L 5 = true → v22 = .int .i64 (k : Int)
  f6 : L 6 = true → v23 = .pointer (some ⟨b, off + k * 5, none⟩)
  f7 : L 7 = true → v24 = .agg #[.int .i64 g.row, .int .i64 g.col, .int .i64 g.rows, .int .i64 g.cols, .int .i64 g.ins]
  f8 : L 8 = true → v25 = .agg #[.string y.s, .int .i64 y.c, .int .i64 y.r, .int .i64 y.a1, .int .i64 y.b1, .int .i64 y.a2, .int .i64 y.b2, .int .i64 y.a3, .int .i64 y.b3, .int .i64 y.a4, .int .i64 y.b4]
  f9 : L 9 = true → v26 = .int .i64 (k : Int)
  f11 : L 11 = true → v7 = .int .i64 (k : Int)
  n10 : L 10 = false → Below w1.heap.size w1 W
  y10 : L 10 = true → ∃ W5, Below w1.heap.size w1 W5 ∧ W = st11 W5 (w.heap.size + 1) (.string y.s) (.int .i64 y.c) (.int .i64 y.r) (.int .i64 y.a1) (.int .i64 y.b1) (.int .i64 y.a2) (.int .i64 y.b2) (.int .i64 y.a3) (.int .i64 y.b3) (.int .i64 y.a4) (.int .i64 y.b4)
set_option maxRecDepth 100000 in
set_option maxHeartbeats 2000000 in
theorem implat (ac ar ag : Option Addr) (cc cr cg : Nat) (t : T) (hD : Drawn t) (r c : Int) (hr : I64 r) (hc : I64 c) (w : World) {z zg : Nat} (hW : RowsAt w z (.slice ar t.rows.length cr) t.rows) (hG : GsAt w zg (.slice ag (gOf t).cells.length cg) (gOf t).cells) :
    Calls Try.prog 68 #[.agg #[.slice ac t.cols.length cc, .int .i64 t.head, .int .i64 t.foot, .slice ar t.rows.length cr, .int .i64 t.gap, .int .i64 (gOf t).rows, .int .i64 (gOf t).cols, .slice ag (gOf t).cells.length cg], .int .i64 r, .int .i64 c] w fun e w' => e = .returned (.tuple #[.agg #[.string (cellN t (atN t r c)).s, .int .i64 (cellN t (atN t r c)).c, .int .i64 (cellN t (atN t r c)).r, .int .i64 (cellN t (atN t r c)).a1, .int .i64 (cellN t (atN t r c)).b1, .int .i64 (cellN t (atN t r c)).a2, .int .i64 (cellN t (atN t r c)).b2, .int .i64 (cellN t (atN t r c)).a3, .int .i64 (cellN t (atN t r c)).b3, .int .i64 (cellN t (atN t r c)).a4, .int .i64 (cellN t (atN t r c)).b4], .int .i64 (atN t r c)]) ∧ Below w.heap.size w w' := by
  have hmx : Try.prog.follows .mixedOrders = true := by kernel_rfl
  obtain ⟨h40, C, hgc, hC88, hcel⟩ := cel_of hD
  clear hgc
  obtain ⟨W0, hW0⟩ : ∃ W0, (w.alloc (.cells #[.slice ac t.cols.length cc, .int .i64 t.head, .int .i64 t.foot, .slice ar t.rows.length cr, .int .i64 t.gap, .int .i64 (gOf t).rows, .int .i64 (gOf t).cols, .slice ag (gOf t).cells.length cg] 77)).alloc (.cells #[.string ⟨#[]⟩, .int .i64 0, .int .i64 0, .int .i64 0, .int .i64 0, .int .i64 0, .int .i64 0, .int .i64 0, .int .i64 0, .int .i64 0, .int .i64 0] 89) = W0 := ⟨_, rfl⟩
  have K0 : Below w.heap.size w W0 := by rw [← hW0]; exact k_alloc (k_alloc (Below.refl _ _) _) _
  have hz0 : W0.heap.size = w.heap.size + 2 := by rw [← hW0]; simp
  have X0 : W0.heap[w.heap.size]? = some (.cells #[.slice ac t.cols.length cc, .int .i64 t.head, .int .i64 t.foot, .slice ar t.rows.length cr, .int .i64 t.gap, .int .i64 (gOf t).rows, .int .i64 (gOf t).cols, .slice ag (gOf t).cells.length cg] 77) := by rw [← hW0]; exact more (newest _ _) _
  have X1 : W0.heap[w.heap.size + 1]? = some (.cells #[.string ⟨#[]⟩, .int .i64 0, .int .i64 0, .int .i64 0, .int .i64 0, .int .i64 0, .int .i64 0, .int .i64 0, .int .i64 0, .int .i64 0, .int .i64 0] 89) := by rw [← hW0]; exact newest1 _ _ _
  have HK0 := Hid.intro K0
  have HX := Hid.intro (And.intro X0 X1)
  have HM := Hid.intro (And.intro (hW.kept K0) (hG.kept K0))
  have KA := Hid.intro (implGrdAt (gOf t).rows (gOf t).cols ag cg (gOf t).cells r c hr hc W0 (hG.kept K0))
  have hat := at_is t r c
  have HA : Hid (findTo (holdsB r c) (gOf t).cells = atN t r c) := rfl
  rw [HA.out] at KA
  have a5 : W0.cell? ⟨w.heap.size, 5, none⟩ = some (.int .i64 (gOf t).rows) := cellB X0
  have a6 : W0.cell? ⟨w.heap.size, 6, none⟩ = some (.int .i64 (gOf t).cols) := cellB X0
  have a7 : W0.cell? ⟨w.heap.size, 7, none⟩ = some (.slice ag (gOf t).cells.length cg) := cellB X0
  clear hW hG K0 X0 X1 HA
  generalize atN t r c = i at KA hat ⊢
  rcases hat with rfl | ⟨k, rfl, hk⟩
  · go_enter Try.func68, Try.ntmps68
    go_upto_region 1 with fail
    clear hW0
    go_wp2_with fail
    refine KA.out.mono ?_
    rintro e w1 ⟨rfl, hb1⟩
    have X1 := (hb1.block (w.heap.size + 1) (by omega)).trans HX.out.2
    obtain ⟨⟨d0, d1, d2, d3, d4, d5, d6, d7, d8, d9, d10⟩, f0, f1, f2, f3, f4, f5, f6, f7, f8, f9, f10⟩ := cells11 X1
    have HK1 := Hid.intro (k_trans HK0.out hb1)
    have HBl := Hid.intro (HK1.out.trans ((st11_bk w1 (w.heap.size + 1) (.string ⟨#[]⟩) (.int .i64 0) (.int .i64 0) (.int .i64 0) (.int .i64 0) (.int .i64 0) (.int .i64 0) (.int .i64 0) (.int .i64 0) (.int .i64 0) (.int .i64 0)).below HK1.out.size (by omega)))
    clear hb1 X1 HK1 a5 a6 a7 KA HX HK0 HM
    go_wp2
    exact bodyPost_ret (v := .tuple #[.agg #[.string ⟨#[]⟩, .int .i64 0, .int .i64 0, .int .i64 0, .int .i64 0, .int .i64 0, .int .i64 0, .int .i64 0, .int .i64 0, .int .i64 0, .int .i64 0], .int .i64 (-1)]) (by simp [results, Try.results68, go_sem, d0, d1, d2, d3, d4, d5, d6, d7, d8, d9, d10]) rfl ⟨rfl, HBl.out⟩
  · have HCe := Hid.intro (hcel k hk)
    have HN : Hid (cellN t (k : Int) = cellAt t ((gOf t).cells.getD k dG)) := by rw [Hid, cellN, if_neg (by omega), Int.toNat_natCast]
    go_enter Try.func68, Try.ntmps68
    go_upto_region 1 with fail
    clear hW0
    go_wp2_with fail
    refine KA.out.mono ?_
    rintro e w1 ⟨rfl, hb1⟩
    have X0 := (hb1.block w.heap.size (by omega)).trans HX.out.1
    have X1 := (hb1.block (w.heap.size + 1) (by omega)).trans HX.out.2
    have HM1 := Hid.intro (And.intro (HM.out.1.kept hb1) (HM.out.2.kept hb1))
    have HK1 := Hid.intro (k_trans HK0.out hb1)
    have hl0 : w.heap.size < w1.heap.size := (Array.getElem?_eq_some_iff.1 X0).1
    have hl1 : w.heap.size + 1 < w1.heap.size := (Array.getElem?_eq_some_iff.1 X1).1
    obtain ⟨b, off, cap', e', hc1, hc2, hbl, hx, _⟩ := At.get HM1.out.2 hk
    simp only [Value.slice.injEq, true_and] at e'
    obtain ⟨rfl, rfl⟩ := e'
    unfold maxLen at hc2
    have KC := Hid.intro (fun (W : World) (h : Below w1.heap.size w1 W) => (implcellOf ac ar cc cr t _ HCe.out W (HM1.out.1.kept h)).mono (fun _ _ ⟨h1, _, h2⟩ => And.intro h1 h2))
    rw [← HN.out] at KC
    generalize (gOf t).cells.getD k dG = g at hx KC
    generalize hyy : cellN t (k : Int) = y at KC
    have HYY := Hid.intro hyy
    clear hyy
    have HGc := Hid.intro hx
    have HX0 := Hid.intro X0
    have HX1 := Hid.intro X1
    clear hx X0 X1 hb1 HCe HN KA HX HK0 HM a5 a6 a7
    go_upto_region 4 with fail
    refine wp_region_inv2 (fun L act W => ∃ v7 v17 v18 v19 v20 v21 v22 v23 v24 v25 v26 : Value, act = ⟨#[.agg #[.slice ac t.cols.length cc, .int .i64 t.head, .int .i64 t.foot, .slice ar t.rows.length cr, .int .i64 t.gap, .int .i64 (gOf t).rows, .int .i64 (gOf t).cols, .slice (some ⟨b, off, none⟩) (gOf t).cells.length cg], .int .i64 r, .int .i64 c, .pointer (some ⟨w.heap.size, 0, none⟩), undef, undef, .pointer (some ⟨w.heap.size + 1, 0, none⟩), v7, .int .i64 (k : Int), .pointer (some ⟨w.heap.size, 5, none⟩), .agg #[.int .i64 (gOf t).rows, .int .i64 (gOf t).cols, .slice (some ⟨b, off, none⟩) (gOf t).cells.length cg], .int .i64 r, .int .i64 c, .int .i64 (k : Int), .int .i64 (k : Int), .bool (decide ((k : Int) < 0)), undef, v17, v18, v19, v20, v21, v22, v23, v24, v25, v26], []⟩ ∧ AtJ ac ar cc cr t w w1 (.slice (some ⟨b, off, none⟩) (gOf t).cells.length cg) b off k g y L W v7 v17 v18 v19 v20 v21 v22 v23 v24 v25 v26) hmx (by kernel_rfl) ?hs ?hd ?h0
    case h0 => exact ⟨_, _, _, _, _, _, _, _, _, _, _, rfl, ⟨(fun h => by cases h), (fun h => by cases h), (fun h => by cases h), (fun h => by cases h), (fun h => by cases h), (fun h => by cases h), (fun h => by cases h), (fun h => by cases h), (fun h => by cases h), (fun h => by cases h), (fun h => by cases h), fun _ => k_drew (Below.refl _ _), (fun h => by cases h)⟩⟩
    case hd =>
      intro L act W hJ hall
      obtain ⟨v7, v17, v18, v19, v20, v21, v22, v23, v24, v25, v26, ha, J⟩ := hJ
      subst ha
      obtain rfl := J.f11 (hall 11 (by decide))
      obtain ⟨W5, hW5, rfl⟩ := J.y10 (hall 10 (by decide))
      have X5 := (hW5.block _ hl1).trans HX1.out
      have X6 := st11_is X5 (.string y.s) (.int .i64 y.c) (.int .i64 y.r) (.int .i64 y.a1) (.int .i64 y.b1) (.int .i64 y.a2) (.int .i64 y.b2) (.int .i64 y.a3) (.int .i64 y.b3) (.int .i64 y.a4) (.int .i64 y.b4)
      obtain ⟨⟨d0, d1, d2, d3, d4, d5, d6, d7, d8, d9, d10⟩, _⟩ := cells11 X6
      have HK5 := Hid.intro (k_trans HK1.out hW5)
      have HBl := Hid.intro (HK5.out.trans ((st11_bk W5 (w.heap.size + 1) (.string y.s) (.int .i64 y.c) (.int .i64 y.r) (.int .i64 y.a1) (.int .i64 y.b1) (.int .i64 y.a2) (.int .i64 y.b2) (.int .i64 y.a3) (.int .i64 y.b3) (.int .i64 y.a4) (.int .i64 y.b4)).below HK5.out.size (by omega)))
      clear X5 X6 hW5 J hall
      generalize st11 W5 (w.heap.size + 1) (.string y.s) (.int .i64 y.c) (.int .i64 y.r) (.int .i64 y.a1) (.int .i64 y.b1) (.int .i64 y.a2) (.int .i64 y.b2) (.int .i64 y.a3) (.int .i64 y.b3) (.int .i64 y.a4) (.int .i64 y.b4) = W6 at *
      go_wp2
      exact bodyPost_ret (v := .tuple #[.agg #[.string y.s, .int .i64 y.c, .int .i64 y.r, .int .i64 y.a1, .int .i64 y.b1, .int .i64 y.a2, .int .i64 y.b2, .int .i64 y.a3, .int .i64 y.b3, .int .i64 y.a4, .int .i64 y.b4], .int .i64 (k : Int)]) (by simp [results, Try.results68, go_sem, d0, d1, d2, d3, d4, d5, d6, d7, d8, d9, d10]) rfl ⟨by rw [HYY.out], HBl.out⟩
    case hs =>
      intro L act W i o hJ hcl ho hLi haft K hK0
      obtain ⟨v7, v17, v18, v19, v20, v21, v22, v23, v24, v25, v26, ha, J⟩ := hJ
      subst ha
      have hi' : i < 12 := by
        have := (Array.getElem?_eq_some_iff.1 ho).1
        simpa using this
      rcases (by omega : i = 0 ∨ i = 1 ∨ i = 2 ∨ i = 3 ∨ i = 4 ∨ i = 5 ∨ i = 6 ∨ i = 7 ∨ i = 8 ∨ i = 9 ∨ i = 10 ∨ i = 11) with rfl | rfl | rfl | rfl | rfl | rfl | rfl | rfl | rfl | rfl | rfl | rfl
      all_goals
        simp only [List.getElem?_toArray, List.getElem?_cons_zero, List.getElem?_cons_succ, Option.some.injEq] at ho
        subst ho
        clear hi'
      · skip
        have hL10 : L 10 = false := hcl 10 0 (by kernel_rfl) hLi
        have hB := J.n10 hL10
        go_simp
        exact hK0 _ _ ⟨_, _, _, _, _, _, _, _, _, _, _, rfl, ⟨(fun _ => rfl), (fun h => J.f1 (by rwa [upd_ne rfl] at h)), (fun h => J.f2 (by rwa [upd_ne rfl] at h)), (fun h => J.f3 (by rwa [upd_ne rfl] at h)), (fun h => J.f4 (by rwa [upd_ne rfl] at h)), (fun h => J.f5 (by rwa [upd_ne rfl] at h)), (fun h => J.f6 (by rwa [upd_ne rfl] at h)), (fun h => J.f7 (by rwa [upd_ne rfl] at h)), (fun h => J.f8 (by rwa [upd_ne rfl] at h)), (fun h => J.f9 (by rwa [upd_ne rfl] at h)), (fun h => J.f11 (by rwa [upd_ne rfl] at h)), (fun h => J.n10 (by rwa [upd_ne rfl] at h)), (fun h => J.y10 (by rwa [upd_ne rfl] at h))⟩⟩
      · skip
        have hL10 : L 10 = false := hcl 10 1 (by kernel_rfl) hLi
        have hB := J.n10 hL10
        obtain rfl := J.f0 (haft ⟨0, .data⟩ (by simp) rfl)
        have q0 := (hB.cell (p := ⟨w.heap.size, 0, none⟩) hl0).trans (cellB (p := 0) HX0.out)
        have q1 := (hB.cell (p := ⟨w.heap.size, 1, none⟩) hl0).trans (cellB (p := 1) HX0.out)
        have q2 := (hB.cell (p := ⟨w.heap.size, 2, none⟩) hl0).trans (cellB (p := 2) HX0.out)
        have q3 := (hB.cell (p := ⟨w.heap.size, 3, none⟩) hl0).trans (cellB (p := 3) HX0.out)
        have q4 := (hB.cell (p := ⟨w.heap.size, 4, none⟩) hl0).trans (cellB (p := 4) HX0.out)
        go_simp
        exact hK0 _ _ ⟨_, _, _, _, _, _, _, _, _, _, _, rfl, ⟨(fun h => J.f0 (by rwa [upd_ne rfl] at h)), (fun _ => rfl), (fun h => J.f2 (by rwa [upd_ne rfl] at h)), (fun h => J.f3 (by rwa [upd_ne rfl] at h)), (fun h => J.f4 (by rwa [upd_ne rfl] at h)), (fun h => J.f5 (by rwa [upd_ne rfl] at h)), (fun h => J.f6 (by rwa [upd_ne rfl] at h)), (fun h => J.f7 (by rwa [upd_ne rfl] at h)), (fun h => J.f8 (by rwa [upd_ne rfl] at h)), (fun h => J.f9 (by rwa [upd_ne rfl] at h)), (fun h => J.f11 (by rwa [upd_ne rfl] at h)), (fun h => J.n10 (by rwa [upd_ne rfl] at h)), (fun h => J.y10 (by rwa [upd_ne rfl] at h))⟩⟩
      · skip
        have hL10 : L 10 = false := hcl 10 2 (by kernel_rfl) hLi
        have hB := J.n10 hL10
        go_simp
        exact hK0 _ _ ⟨_, _, _, _, _, _, _, _, _, _, _, rfl, ⟨(fun h => J.f0 (by rwa [upd_ne rfl] at h)), (fun h => J.f1 (by rwa [upd_ne rfl] at h)), (fun _ => rfl), (fun h => J.f3 (by rwa [upd_ne rfl] at h)), (fun h => J.f4 (by rwa [upd_ne rfl] at h)), (fun h => J.f5 (by rwa [upd_ne rfl] at h)), (fun h => J.f6 (by rwa [upd_ne rfl] at h)), (fun h => J.f7 (by rwa [upd_ne rfl] at h)), (fun h => J.f8 (by rwa [upd_ne rfl] at h)), (fun h => J.f9 (by rwa [upd_ne rfl] at h)), (fun h => J.f11 (by rwa [upd_ne rfl] at h)), (fun h => J.n10 (by rwa [upd_ne rfl] at h)), (fun h => J.y10 (by rwa [upd_ne rfl] at h))⟩⟩
      · skip
        have hL10 : L 10 = false := hcl 10 3 (by kernel_rfl) hLi
        have hB := J.n10 hL10
        obtain rfl := J.f2 (haft ⟨2, .data⟩ (by simp) rfl)
        go_simp
        exact hK0 _ _ ⟨_, _, _, _, _, _, _, _, _, _, _, rfl, ⟨(fun h => J.f0 (by rwa [upd_ne rfl] at h)), (fun h => J.f1 (by rwa [upd_ne rfl] at h)), (fun h => J.f2 (by rwa [upd_ne rfl] at h)), (fun _ => rfl), (fun h => J.f4 (by rwa [upd_ne rfl] at h)), (fun h => J.f5 (by rwa [upd_ne rfl] at h)), (fun h => J.f6 (by rwa [upd_ne rfl] at h)), (fun h => J.f7 (by rwa [upd_ne rfl] at h)), (fun h => J.f8 (by rwa [upd_ne rfl] at h)), (fun h => J.f9 (by rwa [upd_ne rfl] at h)), (fun h => J.f11 (by rwa [upd_ne rfl] at h)), (fun h => J.n10 (by rwa [upd_ne rfl] at h)), (fun h => J.y10 (by rwa [upd_ne rfl] at h))⟩⟩
      · skip
        have hL10 : L 10 = false := hcl 10 4 (by kernel_rfl) hLi
        have hB := J.n10 hL10
        obtain rfl := J.f3 (haft ⟨3, .data⟩ (by simp) rfl)
        have q7 := (hB.cell (p := ⟨w.heap.size, 7, none⟩) hl0).trans (cellB (p := 7) HX0.out)
        go_simp
        exact hK0 _ _ ⟨_, _, _, _, _, _, _, _, _, _, _, rfl, ⟨(fun h => J.f0 (by rwa [upd_ne rfl] at h)), (fun h => J.f1 (by rwa [upd_ne rfl] at h)), (fun h => J.f2 (by rwa [upd_ne rfl] at h)), (fun h => J.f3 (by rwa [upd_ne rfl] at h)), (fun _ => rfl), (fun h => J.f5 (by rwa [upd_ne rfl] at h)), (fun h => J.f6 (by rwa [upd_ne rfl] at h)), (fun h => J.f7 (by rwa [upd_ne rfl] at h)), (fun h => J.f8 (by rwa [upd_ne rfl] at h)), (fun h => J.f9 (by rwa [upd_ne rfl] at h)), (fun h => J.f11 (by rwa [upd_ne rfl] at h)), (fun h => J.n10 (by rwa [upd_ne rfl] at h)), (fun h => J.y10 (by rwa [upd_ne rfl] at h))⟩⟩
      · skip
        have hL10 : L 10 = false := hcl 10 5 (by kernel_rfl) hLi
        have hB := J.n10 hL10
        go_simp
        exact hK0 _ _ ⟨_, _, _, _, _, _, _, _, _, _, _, rfl, ⟨(fun h => J.f0 (by rwa [upd_ne rfl] at h)), (fun h => J.f1 (by rwa [upd_ne rfl] at h)), (fun h => J.f2 (by rwa [upd_ne rfl] at h)), (fun h => J.f3 (by rwa [upd_ne rfl] at h)), (fun h => J.f4 (by rwa [upd_ne rfl] at h)), (fun _ => rfl), (fun h => J.f6 (by rwa [upd_ne rfl] at h)), (fun h => J.f7 (by rwa [upd_ne rfl] at h)), (fun h => J.f8 (by rwa [upd_ne rfl] at h)), (fun h => J.f9 (by rwa [upd_ne rfl] at h)), (fun h => J.f11 (by rwa [upd_ne rfl] at h)), (fun h => J.n10 (by rwa [upd_ne rfl] at h)), (fun h => J.y10 (by rwa [upd_ne rfl] at h))⟩⟩
      · skip
        have hL10 : L 10 = false := hcl 10 6 (by kernel_rfl) hLi
        have hB := J.n10 hL10
        obtain rfl := J.f4 (haft ⟨4, .data⟩ (by simp) rfl)
        obtain rfl := J.f5 (haft ⟨5, .data⟩ (by simp) rfl)
        go_simp
        exact hK0 _ _ ⟨_, _, _, _, _, _, _, _, _, _, _, rfl, ⟨(fun h => J.f0 (by rwa [upd_ne rfl] at h)), (fun h => J.f1 (by rwa [upd_ne rfl] at h)), (fun h => J.f2 (by rwa [upd_ne rfl] at h)), (fun h => J.f3 (by rwa [upd_ne rfl] at h)), (fun h => J.f4 (by rwa [upd_ne rfl] at h)), (fun h => J.f5 (by rwa [upd_ne rfl] at h)), (fun _ => rfl), (fun h => J.f7 (by rwa [upd_ne rfl] at h)), (fun h => J.f8 (by rwa [upd_ne rfl] at h)), (fun h => J.f9 (by rwa [upd_ne rfl] at h)), (fun h => J.f11 (by rwa [upd_ne rfl] at h)), (fun h => J.n10 (by rwa [upd_ne rfl] at h)), (fun h => J.y10 (by rwa [upd_ne rfl] at h))⟩⟩
      · skip
        have hL10 : L 10 = false := hcl 10 7 (by kernel_rfl) hLi
        have hB := J.n10 hL10
        obtain rfl := J.f6 (haft ⟨6, .data⟩ (by simp) rfl)
        have q0 := (hB.cell (p := ⟨b, _, none⟩) hbl).trans HGc.out.1
        have q1 := (hB.cell (p := ⟨b, _, none⟩) hbl).trans HGc.out.2.1
        have q2 := (hB.cell (p := ⟨b, _, none⟩) hbl).trans HGc.out.2.2.1
        have q3 := (hB.cell (p := ⟨b, _, none⟩) hbl).trans HGc.out.2.2.2.1
        have q4 := (hB.cell (p := ⟨b, _, none⟩) hbl).trans HGc.out.2.2.2.2
        go_simp
        exact hK0 _ _ ⟨_, _, _, _, _, _, _, _, _, _, _, rfl, ⟨(fun h => J.f0 (by rwa [upd_ne rfl] at h)), (fun h => J.f1 (by rwa [upd_ne rfl] at h)), (fun h => J.f2 (by rwa [upd_ne rfl] at h)), (fun h => J.f3 (by rwa [upd_ne rfl] at h)), (fun h => J.f4 (by rwa [upd_ne rfl] at h)), (fun h => J.f5 (by rwa [upd_ne rfl] at h)), (fun h => J.f6 (by rwa [upd_ne rfl] at h)), (fun _ => rfl), (fun h => J.f8 (by rwa [upd_ne rfl] at h)), (fun h => J.f9 (by rwa [upd_ne rfl] at h)), (fun h => J.f11 (by rwa [upd_ne rfl] at h)), (fun h => J.n10 (by rwa [upd_ne rfl] at h)), (fun h => J.y10 (by rwa [upd_ne rfl] at h))⟩⟩
      · skip
        have hL10 : L 10 = false := hcl 10 8 (by kernel_rfl) hLi
        have hB := J.n10 hL10
        obtain rfl := J.f1 (haft ⟨1, .data⟩ (by simp) rfl)
        obtain rfl := J.f7 (haft ⟨7, .data⟩ (by simp) rfl)
        go_simp
        go_wp2_with (go_at_call 84; refine (KC.out _ hB).mono ?_; rintro e W2 ⟨rfl, hb⟩)
        exact ⟨_, _, _, _, _, _, _, _, _, _, _, rfl, ⟨(fun h => J.f0 (by rwa [upd_ne rfl] at h)), (fun h => J.f1 (by rwa [upd_ne rfl] at h)), (fun h => J.f2 (by rwa [upd_ne rfl] at h)), (fun h => J.f3 (by rwa [upd_ne rfl] at h)), (fun h => J.f4 (by rwa [upd_ne rfl] at h)), (fun h => J.f5 (by rwa [upd_ne rfl] at h)), (fun h => J.f6 (by rwa [upd_ne rfl] at h)), (fun h => J.f7 (by rwa [upd_ne rfl] at h)), (fun _ => rfl), (fun h => J.f9 (by rwa [upd_ne rfl] at h)), (fun h => J.f11 (by rwa [upd_ne rfl] at h)), (fun _ => k_trans hB hb), (fun h => absurd (by rwa [upd_ne rfl] at h : L 10 = true) (by rw [hL10]; simp))⟩⟩
      · skip
        go_simp
        exact hK0 _ _ ⟨_, _, _, _, _, _, _, _, _, _, _, rfl, ⟨(fun h => J.f0 (by rwa [upd_ne rfl] at h)), (fun h => J.f1 (by rwa [upd_ne rfl] at h)), (fun h => J.f2 (by rwa [upd_ne rfl] at h)), (fun h => J.f3 (by rwa [upd_ne rfl] at h)), (fun h => J.f4 (by rwa [upd_ne rfl] at h)), (fun h => J.f5 (by rwa [upd_ne rfl] at h)), (fun h => J.f6 (by rwa [upd_ne rfl] at h)), (fun h => J.f7 (by rwa [upd_ne rfl] at h)), (fun h => J.f8 (by rwa [upd_ne rfl] at h)), (fun _ => rfl), (fun h => J.f11 (by rwa [upd_ne rfl] at h)), (fun h => J.n10 (by rwa [upd_ne rfl] at h)), (fun h => J.y10 (by rwa [upd_ne rfl] at h))⟩⟩
      · skip
        obtain rfl := J.f8 (haft ⟨8, .data⟩ (by simp) rfl)
        have hB := J.n10 hLi
        have X5 := (hB.block _ hl1).trans HX1.out
        obtain ⟨⟨d0, d1, d2, d3, d4, d5, d6, d7, d8, d9, d10⟩, f0, f1, f2, f3, f4, f5, f6, f7, f8, f9, f10⟩ := cells11 X5
        go_simp
        exact hK0 _ _ ⟨_, _, _, _, _, _, _, _, _, _, _, rfl, ⟨(fun h => J.f0 (by rwa [upd_ne rfl] at h)), (fun h => J.f1 (by rwa [upd_ne rfl] at h)), (fun h => J.f2 (by rwa [upd_ne rfl] at h)), (fun h => J.f3 (by rwa [upd_ne rfl] at h)), (fun h => J.f4 (by rwa [upd_ne rfl] at h)), (fun h => J.f5 (by rwa [upd_ne rfl] at h)), (fun h => J.f6 (by rwa [upd_ne rfl] at h)), (fun h => J.f7 (by rwa [upd_ne rfl] at h)), (fun h => J.f8 (by rwa [upd_ne rfl] at h)), (fun h => J.f9 (by rwa [upd_ne rfl] at h)), (fun h => J.f11 (by rwa [upd_ne rfl] at h)), (fun h => by rw [upd_self] at h; cases h), (fun _ => ⟨W, hB, rfl⟩)⟩⟩
      · skip
        obtain rfl := J.f9 (haft ⟨9, .data⟩ (by simp) rfl)
        go_simp
        exact hK0 _ _ ⟨_, _, _, _, _, _, _, _, _, _, _, rfl, ⟨(fun h => J.f0 (by rwa [upd_ne rfl] at h)), (fun h => J.f1 (by rwa [upd_ne rfl] at h)), (fun h => J.f2 (by rwa [upd_ne rfl] at h)), (fun h => J.f3 (by rwa [upd_ne rfl] at h)), (fun h => J.f4 (by rwa [upd_ne rfl] at h)), (fun h => J.f5 (by rwa [upd_ne rfl] at h)), (fun h => J.f6 (by rwa [upd_ne rfl] at h)), (fun h => J.f7 (by rwa [upd_ne rfl] at h)), (fun h => J.f8 (by rwa [upd_ne rfl] at h)), (fun h => J.f9 (by rwa [upd_ne rfl] at h)), (fun _ => rfl), (fun h => J.n10 (by rwa [upd_ne rfl] at h)), (fun h => J.y10 (by rwa [upd_ne rfl] at h))⟩⟩
end Go.Proofs.Ytfkkhfiiokhnaag
namespace Go.Proofs.Ytfkkhfiiokhnaag
open Go.RowKit

set_option maxRecDepth 100000 in
set_option maxHeartbeats 1000000 in
theorem implmeet (x y : Fr) (w : World) :
    Calls Try.prog 69 #[.agg #[.int .i64 (x).s, .int .i64 (x).w, .int .i64 (x).c], .agg #[.int .i64 (y).s, .int .i64 (y).w, .int .i64 (y).c]] w fun e w' => e = .returned (.agg #[.int .i64 (meetF x y).s, .int .i64 (meetF x y).w, .int .i64 (meetF x y).c]) ∧ Below w.heap.size w w' := by
  obtain ⟨W0, hW0⟩ : ∃ W0, ((w.alloc (.cells #[.int .i64 (x).s, .int .i64 (x).w, .int .i64 (x).c] 42)).alloc (.cells #[.int .i64 (y).s, .int .i64 (y).w, .int .i64 (y).c] 42)).alloc (.cells #[.int .i64 0, .int .i64 0, .int .i64 0] 42) = W0 := ⟨_, rfl⟩
  have K0 : Below w.heap.size w W0 := by rw [← hW0]; exact k_alloc (k_alloc (k_alloc (Below.refl _ _) _) _) _
  have hz0 : W0.heap.size = w.heap.size + 3 := by rw [← hW0]; simp
  have X0 : W0.heap[w.heap.size]? = some (.cells #[.int .i64 (x).s, .int .i64 (x).w, .int .i64 (x).c] 42) := by rw [← hW0]; exact more (more (newest _ _) _) _
  have X1 : W0.heap[w.heap.size + 1]? = some (.cells #[.int .i64 (y).s, .int .i64 (y).w, .int .i64 (y).c] 42) := by rw [← hW0]; exact more (newest1 _ _ _) _
  have X2 : W0.heap[w.heap.size + 1 + 1]? = some (.cells #[.int .i64 0, .int .i64 0, .int .i64 0] 42) := by
    have h := newest ((w.alloc (.cells #[.int .i64 (x).s, .int .i64 (x).w, .int .i64 (x).c] 42)).alloc (.cells #[.int .i64 (y).s, .int .i64 (y).w, .int .i64 (y).c] 42)) (.cells #[.int .i64 0, .int .i64 0, .int .i64 0] 42)
    rw [show ((w.alloc (.cells #[.int .i64 (x).s, .int .i64 (x).w, .int .i64 (x).c] 42)).alloc (.cells #[.int .i64 (y).s, .int .i64 (y).w, .int .i64 (y).c] 42)).heap.size = w.heap.size + 1 + 1 by simp, hW0] at h
    exact h
  have HX := Hid.intro (And.intro X0 (And.intro X1 X2))
  have HK0 := Hid.intro K0
  have Hz0 := Hid.intro hz0
  obtain ⟨⟨p0, p1, p2⟩, _⟩ := cells3 X0
  obtain ⟨⟨q0, q1, q2⟩, _⟩ := cells3 X1
  clear X0 X1 X2 K0 hz0
  by_cases h1 : x.c = y.c
  · have e1 : (x.c == y.c) = true := by simpa using h1
    have H1 := Hid.intro h1
    clear h1
    go_enter Try.func69, Try.ntmps69
    go_upto_region 1 with fail
    clear hW0
    go_wp2_with fail
    refine (implbestOf (.slice none 0 0) [] (by simp) _ (z := 0) ⟨none, 0, rfl, Nat.le_refl _, Nat.zero_le _, fun i hi => absurd hi (Nat.not_lt_zero _)⟩).mono ?_
    rintro e w1 ⟨rfl, hb1⟩
    have X3 := (hb1.block (w.heap.size + 1 + 1) (by first | (rw [Hz0.out]; omega) | (simp; rw [Hz0.out]; omega))).trans (HX.out.2.2)
    obtain ⟨⟨d0, d1, d2⟩, f0, f1, f2⟩ := cells3 X3
    have HK1 := Hid.intro (k_trans HK0.out hb1)
    have HE : Hid (bestF [] = meetF x y) := by rw [Hid, best_none, meetF, if_pos H1.out]
    have HBl := Hid.intro (HK1.out.trans ((st3_bk w1 (w.heap.size + 1 + 1) (.int .i64 (bestF []).s) (.int .i64 (bestF []).w) (.int .i64 (bestF []).c)).below HK1.out.size (by omega)))
    generalize bestF [] = m at HE HBl ⊢
    clear hb1 X3 HK1 p0 p1 p2 q0 q1 q2 HX
    go_wp2
    exact bodyPost_ret (v := .agg #[.int .i64 m.s, .int .i64 m.w, .int .i64 m.c]) (by simp [results, Try.results69, go_sem, d0, d1, d2]) rfl ⟨by rw [← HE.out], HBl.out⟩
  have e1 : (x.c == y.c) = false := by simpa using h1
  have H1 := Hid.intro h1
  clear h1
  by_cases h2 : x.c < 0
  · have H2 := Hid.intro h2
    go_enter Try.func69, Try.ntmps69
    go_upto_region 1 with fail
    clear hW0
    go_wp2_with fail
    refine (implbestOf _ [y] (by simp) _ (frs_one W0 y _)).mono ?_
    rintro e w1 ⟨rfl, hb1⟩
    have X3 := (hb1.block (w.heap.size + 1 + 1) (by first | (rw [Hz0.out]; omega) | (simp; rw [Hz0.out]; omega))).trans ((Below.heap_alloc _ _ _ (by rw [Hz0.out]; omega)).trans HX.out.2.2)
    obtain ⟨⟨d0, d1, d2⟩, f0, f1, f2⟩ := cells3 X3
    have HK1 := Hid.intro (k_trans (k_alloc HK0.out (.cells #[.int .i64 (y).s, .int .i64 (y).w, .int .i64 (y).c] 42)) hb1)
    have HE : Hid (bestF [y] = meetF x y) := by rw [Hid, best_one, meetF, if_neg H1.out, if_pos H2.out]
    have HBl := Hid.intro (HK1.out.trans ((st3_bk w1 (w.heap.size + 1 + 1) (.int .i64 (bestF [y]).s) (.int .i64 (bestF [y]).w) (.int .i64 (bestF [y]).c)).below HK1.out.size (by omega)))
    generalize bestF [y] = m at HE HBl ⊢
    clear hb1 X3 HK1 p0 p1 p2 q0 q1 q2 HX
    go_wp2
    exact bodyPost_ret (v := .agg #[.int .i64 m.s, .int .i64 m.w, .int .i64 m.c]) (by simp [results, Try.results69, go_sem, d0, d1, d2]) rfl ⟨by rw [← HE.out], HBl.out⟩
  have H2 := Hid.intro h2
  by_cases h3 : y.c < 0
  · have H3 := Hid.intro h3
    go_enter Try.func69, Try.ntmps69
    go_upto_region 1 with fail
    clear hW0
    go_wp2_with fail
    refine (implbestOf _ [x] (by simp) _ (frs_one W0 x _)).mono ?_
    rintro e w1 ⟨rfl, hb1⟩
    have X3 := (hb1.block (w.heap.size + 1 + 1) (by first | (rw [Hz0.out]; omega) | (simp; rw [Hz0.out]; omega))).trans ((Below.heap_alloc _ _ _ (by rw [Hz0.out]; omega)).trans HX.out.2.2)
    obtain ⟨⟨d0, d1, d2⟩, f0, f1, f2⟩ := cells3 X3
    have HK1 := Hid.intro (k_trans (k_alloc HK0.out (.cells #[.int .i64 (x).s, .int .i64 (x).w, .int .i64 (x).c] 42)) hb1)
    have HE : Hid (bestF [x] = meetF x y) := by rw [Hid, best_one, meetF, if_neg H1.out, if_neg (by have := H2.out; omega), if_pos H3.out]
    have HBl := Hid.intro (HK1.out.trans ((st3_bk w1 (w.heap.size + 1 + 1) (.int .i64 (bestF [x]).s) (.int .i64 (bestF [x]).w) (.int .i64 (bestF [x]).c)).below HK1.out.size (by omega)))
    generalize bestF [x] = m at HE HBl ⊢
    clear hb1 X3 HK1 p0 p1 p2 q0 q1 q2 HX
    go_wp2
    exact bodyPost_ret (v := .agg #[.int .i64 m.s, .int .i64 m.w, .int .i64 m.c]) (by simp [results, Try.results69, go_sem, d0, d1, d2]) rfl ⟨by rw [← HE.out], HBl.out⟩
  · have H3 := Hid.intro h3
    go_enter Try.func69, Try.ntmps69
    go_upto_region 1 with fail
    clear hW0
    go_wp2_with fail
    refine (implbestOf _ [x, y] (by simp) _ (frs_two W0 x y _)).mono ?_
    rintro e w1 ⟨rfl, hb1⟩
    have X3 := (hb1.block (w.heap.size + 1 + 1) (by first | (rw [Hz0.out]; omega) | (simp; rw [Hz0.out]; omega))).trans ((Below.heap_alloc _ _ _ (by rw [Hz0.out]; omega)).trans HX.out.2.2)
    obtain ⟨⟨d0, d1, d2⟩, f0, f1, f2⟩ := cells3 X3
    have HK1 := Hid.intro (k_trans (k_alloc HK0.out (.cells #[.int .i64 (x).s, .int .i64 (x).w, .int .i64 (x).c, .int .i64 (y).s, .int .i64 (y).w, .int .i64 (y).c] 42)) hb1)
    have HE : Hid (bestF [x, y] = meetF x y) := by rw [Hid, best_two, meetF, if_neg (show ¬ x.c = y.c from H1.out), if_neg (show ¬ x.c < 0 by have := H2.out; omega), if_neg (show ¬ y.c < 0 by have := H3.out; omega)]
    have HBl := Hid.intro (HK1.out.trans ((st3_bk w1 (w.heap.size + 1 + 1) (.int .i64 (bestF [x, y]).s) (.int .i64 (bestF [x, y]).w) (.int .i64 (bestF [x, y]).c)).below HK1.out.size (by omega)))
    generalize bestF [x, y] = m at HE HBl ⊢
    clear hb1 X3 HK1 p0 p1 p2 q0 q1 q2 HX
    go_wp2
    exact bodyPost_ret (v := .agg #[.int .i64 m.s, .int .i64 m.w, .int .i64 m.c]) (by simp [results, Try.results69, go_sem, d0, d1, d2]) rfl ⟨by rw [← HE.out], HBl.out⟩
end Go.Proofs.Ytfkkhfiiokhnaag
