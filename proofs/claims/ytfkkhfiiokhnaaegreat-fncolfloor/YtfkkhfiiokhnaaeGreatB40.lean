/-
  PROVED HERE: the model's l6Of: one for each column of a kind, else nought, in memory of its own; nothing that was in memory is turned. Also: the program's give adds to columns what is given to some of them, and takes that from what is left; nothing else that was in memory is turned.
-/
import Derived.Test.YtfkkhfiiokhnaaeGreatB39
import Derived.Test.YtfkkhfiiokhnaaeGreatB27
import Derived.Test.YtfkkhfiiokhnaaeGreatB26
import Derived.Test.YtfkkhfiiokhnaaeGreatB29
import Derived.Deep.DeepCutAuto
import Derived.Deep.RegionWith
import Derived.Deep.QuietTactic
import Derived.BigQuiet
namespace Go.Proofs.YtfkkhfiiokhnaaeGreat
open Go.RowKit Go.BigFrame

set_option maxRecDepth 100000 in
set_option maxHeartbeats 1000000 in
theorem specl6Of (ac ar : Option Addr) (cc cr : Nat) (t : T) (q : Int) (C : Nat) (hC : C ≤ 88) (w : World) {z : Nat} (hc : ColsAt w z (.slice ac t.cols.length cc) t.cols) :
    Calls Tryz.prog 86 #[.agg #[.slice ac t.cols.length cc, .int .i64 t.head, .int .i64 t.foot, .slice ar t.rows.length cr, .int .i64 t.gap], .int .i64 q, .int .i64 (C : Int)] w fun e w' => ∃ v, e = .returned v ∧ RowI w' w.heap.size w'.heap.size v (oneL (kindP t q) C) ∧ Below w.heap.size w w' := by
  obtain ⟨i0, hi, hz0, hz1, hz2⟩ := info_parts infoIc
  have hf0 := field0
  have HC := Hid.intro hc
  have HLn := Hid.intro (oneL_len (kindP t q) C)
  have K1 := k_alloc (Below.refl w.heap.size w) (.cells #[.slice ac t.cols.length cc, .int .i64 t.head, .int .i64 t.foot, .slice ar t.rows.length cr, .int .i64 t.gap] 26)
  have X1 := newestB w (.cells #[.slice ac t.cols.length cc, .int .i64 t.head, .int .i64 t.foot, .slice ar t.rows.length cr, .int .i64 t.gap] 26)
  have hs1 : (w.alloc (.cells #[.slice ac t.cols.length cc, .int .i64 t.head, .int .i64 t.foot, .slice ar t.rows.length cr, .int .i64 t.gap] 26)).heap.size = w.heap.size + 1 := by simp
  have HR0 := Hid.intro (row_lit (w.alloc (.cells #[.slice ac t.cols.length cc, .int .i64 t.head, .int .i64 t.foot, .slice ar t.rows.length cr, .int .i64 t.gap] 26)) (w.heap.size + 1) (by omega))
  have HK0 := Hid.intro (k_alloc K1 (.cells #[] 3))
  have HX0 := Hid.intro ((Below.heap_alloc (w.alloc (.cells #[.slice ac t.cols.length cc, .int .i64 t.head, .int .i64 t.foot, .slice ar t.rows.length cr, .int .i64 t.gap] 26)) (.cells #[] 3) w.heap.size (by omega)).trans X1)
  rw [hs1] at HR0
  clear hc K1 X1
  go_enter Tryz.func86, Tryz.ntmps86
  go_wp2_with fail
  go_loopw [7, 8] (fun o i W => ∃ k : Nat, i = .int .i64 k ∧ k ≤ C ∧ Hid (W.ownsRow (w.heap.size + 1) 3 1 o ((oneL (kindP t q) C).take k).length (((oneL (kindP t q) C).take k).map (Value.int .i64))) ∧ Hid (Below w.heap.size w W) ∧ Hid (W.heap[w.heap.size]? = some (.cells #[.slice ac t.cols.length cc, .int .i64 t.head, .int .i64 t.foot, .slice ar t.rows.length cr, .int .i64 t.gap] 26))) (fun _ i _ => C - (intOf i).toNat)
  case atStart => exact ⟨0, rfl, Nat.zero_le _, by rw [List.take_zero]; exact HR0.out.owns, HK0, HX0⟩
  case round =>
    clear HR0 HK0 HX0
    obtain ⟨k, rfl, hk, HO, HB, HX⟩ := hrel
    by_cases hlt : k < C
    case neg =>
      obtain rfl : k = C := by omega
      have HR := Hid.intro (RowI.of_owns HO.out)
      rw [show (oneL (kindP t q) k).take k = oneL (kindP t q) k by rw [List.take_of_length_le (by rw [HLn.out]; exact Nat.le_refl _)]] at HR
      go_wp2
      go_ret
      exact ⟨_, rfl, HR.out.base (by omega) (Nat.le_refl _), HB.out⟩
    have hwz : w.heap.size < wr.heap.size := (Array.getElem?_eq_some_iff.1 HX.out).1
    have b0 : wr.cell? ⟨w.heap.size, 0, none⟩ = some (.slice ac t.cols.length cc) := cellB HX.out
    have b1 : wr.cell? ⟨w.heap.size, 1, none⟩ = some (.int .i64 t.head) := cellB HX.out
    have b2 : wr.cell? ⟨w.heap.size, 2, none⟩ = some (.int .i64 t.foot) := cellB HX.out
    have b3 : wr.cell? ⟨w.heap.size, 3, none⟩ = some (.slice ar t.rows.length cr) := cellB HX.out
    have b4 : wr.cell? ⟨w.heap.size, 4, none⟩ = some (.int .i64 t.gap) := cellB HX.out
    have KS := Hid.intro (specl5Said ac ar cc cr t (k : Int) (by omega) wr (HC.out.kept HB.out))
    have hkq := kind_eq t q k
    have hol : ((oneL (kindP t q) C).take k).length ≤ k := by rw [List.length_take]; omega
    have HT : Hid ((oneL (kindP t q) C).take (k + 1) = (oneL (kindP t q) C).take k ++ [if kindP t q k = true then (1 : Int) else 0]) := by rw [Hid, take_nextI (by rw [HLn.out]; exact hlt), oneL_get hlt]
    generalize sd t.cols k = p at KS hkq
    generalize (oneL (kindP t q) C).take k = xs at HO HT hol
    cases hp : kindP t q k with
    | false =>
      rw [hp] at hkq HT
      simp only [Bool.false_eq_true, if_false] at HT
      clear hp
      go_wp2_with fail
      refine KS.out.mono ?_
      rintro e w1 ⟨rfl, hb1⟩
      have HB1 := Hid.intro (k_trans HB.out hb1)
      have HX1 := Hid.intro ((hb1.block w.heap.size hwz).trans HX.out)
      have hO4 := (RowI.of_owns HO.out |>.kept (fun j h0 _ _ => hb1.block j h0)).owns
      have hsz : w.heap.size + 1 ≤ w1.heap.size := by have := hb1.size; omega
      clear hb1 b0 b1 b2 b3 b4 HO HB HX
      go_wp2_with (at_builtin; refine wpList_append_own _ rfl _ _ 32 rfl (w.heap.size + 1) 3 i0 (.int .i64 0) 1 8 Tryz.underlying32 hi hz0 hz1 hz2 rfl (by decide) _ _ _ rfl (hO4.alloc _) ⟨w1.heap.size, 0, none⟩ 1 1 [.int .i64 0] rfl rfl ?c1 ?c2 ?c3 ?c4 ?c5 ?_)
      case c1 =>
        intro i u hi
        match i, hi with
        | 0, hi => simp at hi; subst hi; simp [Addr.add]
      case c2 => intro u hu; simp at hu; subst hu; rfl
      case c3 => unfold maxLen; omega
      case c4 => omega
      case c5 => simp; omega
      intro v' w5 hown' hgrow' _
      obtain ⟨hB5, hX5⟩ := app_keeps (Nat.le_succ _) hO4 HB1.out hgrow'
      have HB5 := Hid.intro hB5
      have HX5 := Hid.intro ((hX5 w.heap.size (Nat.lt_succ_self _) (by omega)).trans HX1.out)
      have HO5 : Hid (w5.ownsRow (w.heap.size + 1) 3 1 v' (xs ++ [0]).length ((xs ++ [0]).map (Value.int .i64))) := by rw [List.length_append, List.map_append]; exact hown'
      obtain ⟨g', cap'', rfl⟩ := Joins.ownsRow_form hown' (by omega)
      clear hown' hgrow' hO4 hB5 hX5 HB1 HX1
      go_wp2
      go_roundw
      case rel => exact ⟨k + 1, by go_num, by omega, by rw [HT.out]; exact HO5, HB5, HX5⟩
      case measure => simp [intOf]; omega
    | true =>
      rw [hp] at hkq HT
      simp only [if_true] at HT
      clear hp
      go_wp2_with fail
      refine KS.out.mono ?_
      rintro e w1 ⟨rfl, hb1⟩
      have HB1 := Hid.intro (k_trans HB.out hb1)
      have HX1 := Hid.intro ((hb1.block w.heap.size hwz).trans HX.out)
      have hO4 := (RowI.of_owns HO.out |>.kept (fun j h0 _ _ => hb1.block j h0)).owns
      have hsz : w.heap.size + 1 ≤ w1.heap.size := by have := hb1.size; omega
      clear hb1 b0 b1 b2 b3 b4 HO HB HX
      go_wp2_with (at_builtin; refine wpList_append_own _ rfl _ _ 32 rfl (w.heap.size + 1) 3 i0 (.int .i64 0) 1 8 Tryz.underlying32 hi hz0 hz1 hz2 rfl (by decide) _ _ _ rfl (hO4.alloc _) ⟨w1.heap.size, 0, none⟩ 1 1 [.int .i64 1] rfl rfl ?c1 ?c2 ?c3 ?c4 ?c5 ?_)
      case c1 =>
        intro i u hi
        match i, hi with
        | 0, hi => simp at hi; subst hi; simp [Addr.add]
      case c2 => intro u hu; simp at hu; subst hu; rfl
      case c3 => unfold maxLen; omega
      case c4 => omega
      case c5 => simp; omega
      intro v' w5 hown' hgrow' _
      obtain ⟨hB5, hX5⟩ := app_keeps (Nat.le_succ _) hO4 HB1.out hgrow'
      have HB5 := Hid.intro hB5
      have HX5 := Hid.intro ((hX5 w.heap.size (Nat.lt_succ_self _) (by omega)).trans HX1.out)
      have HO5 : Hid (w5.ownsRow (w.heap.size + 1) 3 1 v' (xs ++ [1]).length ((xs ++ [1]).map (Value.int .i64))) := by rw [List.length_append, List.map_append]; exact hown'
      obtain ⟨g', cap'', rfl⟩ := Joins.ownsRow_form hown' (by omega)
      clear hown' hgrow' hO4 hB5 hX5 HB1 HX1
      go_wp2
      go_roundw
      case rel => exact ⟨k + 1, by go_num, by omega, by rw [HT.out]; exact HO5, HB5, HX5⟩
      case measure => simp [intOf]; omega
end Go.Proofs.YtfkkhfiiokhnaaeGreat
namespace Go.Proofs.YtfkkhfiiokhnaaeGreat
open Go.RowKit Go.BigFrame

theorem getD_small {G : List Int} (h : G.all wtB = true) (i : Nat) : 0 ≤ G.getD i 0 ∧ G.getD i 0 ≤ 100000 := by
  by_cases hi : i < G.length
  · exact wt_get h hi
  · rw [show G.getD i 0 = 0 by simp [List.getD, hi]]; omega
set_option maxRecDepth 100000 in
set_option maxHeartbeats 1000000 in
theorem implgive (sb : Nat) (ac ar : Option Addr) (cc cr : Nat) (t : T) (width : Int) (g cap C : Nat) (left : Int) (L G : List Int) (js : List Nat) (vc vg : Value) (B D B1 : Nat) (hLC : L.length = C) (hjC : ∀ k, k < js.length → js.getD k 0 < C) (hjl : js.length ≤ 88) (hGl : G.length = js.length)
    (hLs : L.all wtB = true) (hGs : G.all wtB = true) (hl : 0 ≤ left ∧ left ≤ 100000) (hgD : g < D) (hDs : D ≤ sb) (hs1 : sb < B1) (w : World) (hS : Sp w sb ac ar cc cr t width g cap C left) (hR : RowI w B D (.slice (some ⟨g, 0, none⟩) C cap) L) (h1 : RowI w B1 w.heap.size vc (natL js)) (h2 : RowI w B1 w.heap.size vg G) :
    Calls Tryz.prog 78 #[.pointer (some ⟨sb, 0, none⟩), vc, vg] w fun e w' => e = .returned (.tuple #[]) ∧ Sp w' sb ac ar cc cr t width g cap C (left - G.sum) ∧ RowI w' B D (.slice (some ⟨g, 0, none⟩) C cap) (giveTo L js G js.length) ∧ Bk2 g sb w w' := by
  have hmx : Tryz.prog.follows .mixedOrders = true := by kernel_rfl
  obtain ⟨a1, c1, rfl⟩ := h1.form
  obtain ⟨a2, c2, rfl⟩ := h2.form
  rw [natL_len] at h1 ⊢
  rw [hGl] at h2 ⊢
  have HGl := Hid.intro hGl
  have H1 := Hid.intro h1
  have H2 := Hid.intro h2
  have HS := Hid.intro hS
  have HR := Hid.intro hR
  have HSm := Hid.intro (fun k i => giveTo_small (js := js) (M := 100000) (N := 100000) (by omega) (getD_small hLs) (getD_small hGs) k i)
  have HSu := Hid.intro (sumTo_bound hGs)
  have HGg := Hid.intro (getD_small hGs)
  have HjC := Hid.intro hjC
  have HE : Hid (left - G.sum = left - sumTo G js.length) := by rw [Hid, ← hGl, sumTo_all]
  have HSu : Hid (∀ k, k ≤ js.length → 0 ≤ sumTo G k ∧ sumTo G k ≤ k * 100000) := fun k hk => HSu.out k (by omega)
  clear h1 h2 hS hR hLs hGs hjC hGl
  go_enter Tryz.func78, Tryz.ntmps78
  go_wp2_with fail
  go_loopw [10] (fun s W => ∃ k : Nat, s = .int .i64 k ∧ k ≤ js.length ∧ Hid (Sp W sb ac ar cc cr t width g cap C (left - sumTo G k)) ∧ Hid (RowI W B D (.slice (some ⟨g, 0, none⟩) C cap) (giveTo L js G k)) ∧ Hid (Bk2 g sb w W)) (fun s _ => js.length - (intOf s).toNat)
  case atStart => exact ⟨0, rfl, Nat.zero_le _, by rw [show left - sumTo G 0 = left by simp [sumTo]]; exact HS, HR, Bk2.refl _ _ _⟩
  case round =>
    clear HS HR
    obtain ⟨k, rfl, hk, HS, HR, HB⟩ := hrel
    by_cases hlt : k < js.length
    case neg =>
      obtain rfl : k = js.length := by omega
      go_wp2
      first
        | go_end0
        | skip
      exact ⟨rfl, by rw [HE.out]; exact HS.out, HR.out, HB.out⟩
    obtain ⟨b1, c1', e1, hb1B, _, hb1w, hc11, hc12, hx1, _⟩ := (H1.out.bk2 HB.out (.inl (by omega)) (.inl hs1)).get (i := k) (by rw [natL_len]; exact hlt)
    rw [natL_len] at e1 hc11
    rw [natL_get hlt] at hx1
    simp only [Value.slice.injEq, true_and] at e1
    obtain ⟨rfl, rfl⟩ := e1
    obtain ⟨b2, c2', e2, hb2B, _, hb2w, hc21, hc22, hx2, _⟩ := (H2.out.bk2 HB.out (.inl (by omega)) (.inl hs1)).get (i := k) (by rw [HGl.out]; exact hlt)
    rw [HGl.out] at e2 hc21
    simp only [Value.slice.injEq, true_and] at e2
    obtain ⟨rfl, rfl⟩ := e2
    have hj := HjC.out k hlt
    have hgs := giveTo_len L js G k
    obtain ⟨g', cap', e3, hgB, _, hgw, hc31, hc32, hx3, hf3⟩ := HR.out.get (i := js.getD k 0) (by omega)
    rw [hgs, hLC] at e3 hc31
    simp only [Value.slice.injEq, Option.some.injEq, Addr.mk.injEq, and_true, true_and] at e3
    obtain ⟨rfl, rfl⟩ := e3
    have hs3 := HSm.out k (js.getD k 0)
    have hy := HGg.out k
    have hsu := HSu.out k (by omega)
    have HG1 : Hid (giveTo L js G (k + 1) = (giveTo L js G k).set (js.getD k 0) ((giveTo L js G k).getD (js.getD k 0) 0 + G.getD k 0)) := rfl
    have HG2 : Hid (left - sumTo G (k + 1) = left - sumTo G k - G.getD k 0) := by rw [Hid, sumTo_succ (by rw [HGl.out]; exact hlt)]; omega
    unfold maxLen at hc12 hc22 hc32
    have hne := bw_some wr
    have m0 := bw_cell (a := ⟨sb, 6, none⟩) HS.out.lt (cellB (p := 6) HS.out)
    have m1 := bw_cell (a := ⟨g, js.getD k 0, none⟩) hgw hx3
    have m2 := bw_cell (a := ⟨b2, k, none⟩) hb2w hx2
    generalize sumTo G k = su at HS hsu HG2
    generalize hjj : js.getD k 0 = j at *
    generalize hxx : (giveTo L js G k).getD j 0 = x at *
    generalize hyy : G.getD k 0 = y at *
    clear hx2 hx3 hf3
    go_upto_region 3 with fail
    clear hx1
    refine wp_region_last 13 hmx (by rfl) (by rfl) (by kernel_rfl) (by kernel_rfl) ?_
    simp only [List.take_succ_cons, List.take_zero]
    repeat (go_big_quiet_step (fail))
    refine wpQuiet_nil ?_
    intro W5 hw'
    obtain ⟨⟨Wx, hW5⟩, hw''⟩ := hw'
    subst hw''
    have hlj : j < (giveTo L js G k).length := by omega
    have HR5 := Hid.intro ((HR.out.kept (fun i h0 _ _ => hW5.block i h0)).set (i := j) hlj (x + y))
    rw [← HG1.out] at HR5
    have HS5 := Hid.intro ((HS.out.kept hW5).other (p := ⟨g, j, none⟩) (show sb ≠ g by omega) (.int .i64 (x + y)))
    have HB5 := Hid.intro ((HB.out.trans (Bk2.of_below hW5)).set (p := ⟨g, j, none⟩) (.inl rfl) (.int .i64 (x + y)))
    obtain ⟨g5, cap5, e5, _, _, hgw5, _, _, hx5, hf5⟩ := (HR.out.kept (fun i h0 _ _ => hW5.block i h0)).get (i := j) hlj
    simp only [Value.slice.injEq, Option.some.injEq, Addr.mk.injEq, and_true] at e5
    have eg := e5.1
    clear e5
    subst eg
    clear m0 m1 m2 hne hW5 HR HS HB HG1 hs3
    rw [if_pos (by rfl)]
    go_simp
    clear hx5 hf5
    go_upto_region 4 with fail
    generalize W5.setCell ⟨g, j, none⟩ (.int .i64 (x + y)) = W6 at HR5 HS5 HB5 ⊢
    obtain ⟨b2', c2'', e2, _, _, hb2w', _, _, hx2, _⟩ := (H2.out.bk2 HB5.out (.inl (by omega)) (.inl hs1)).get (i := k) (by rw [HGl.out]; exact hlt)
    rw [HGl.out] at e2
    simp only [Value.slice.injEq, Option.some.injEq, Addr.mk.injEq, and_true, true_and] at e2
    obtain ⟨rfl, rfl⟩ := e2
    rw [hyy] at hx2
    have hne := bw_some W6
    have m0 := bw_cell (a := ⟨sb, 7, none⟩) HS5.out.lt (cellB (p := 7) HS5.out)
    have m2 := bw_cell (a := ⟨b2, k, none⟩) hb2w' hx2
    clear hx2
    refine wp_region_last 11 hmx (by rfl) (by rfl) (by kernel_rfl) (by kernel_rfl) ?_
    simp only [List.take_succ_cons, List.take_zero]
    repeat (go_big_quiet_step (fail))
    refine wpQuiet_nil ?_
    intro W7 hw'
    obtain ⟨⟨Wy, hW7⟩, hw''⟩ := hw'
    subst hw''
    have HR7 := Hid.intro ((HR5.out.kept (fun i h0 _ _ => hW7.block i h0)).kept (w' := W7.setCell ⟨sb, 7, none⟩ (.int .i64 (left - su - y))) (fun i _ _ h2 => Below.heap_setCell _ _ _ _ (show i ≠ sb by omega)))
    have HS7 := Hid.intro ((HS5.out.kept hW7).left (left - su - y))
    have HB7 := Hid.intro ((HB5.out.trans (Bk2.of_below hW7)).set (p := ⟨sb, 7, none⟩) (.inr rfl) (.int .i64 (left - su - y)))
    have hq7 : W7.cell? ⟨sb, 7, none⟩ = some (.int .i64 (left - su)) := cellB (p := 7) (HS5.out.kept hW7)
    have hf7 : W7.frozen? ⟨sb, 7, none⟩ = false := freeB (p := 7) (HS5.out.kept hW7)
    clear m0 m2 hne hW7 HR5 HS5 HB5
    rw [if_pos (by rfl)]
    go_simp
    go_wp2
    go_roundw
    case rel => exact ⟨k + 1, by go_num, by omega, by rw [HG2.out]; exact HS7, HR7, HB7⟩
    case measure => simp [intOf]; omega
end Go.Proofs.YtfkkhfiiokhnaaeGreat
