/-
  PROVED HERE: what the model's GrdBlocks answers at a grid that lies in memory, and that its answer owns its memory; nothing that was in memory is turned.
-/
import Derived.Test.YtfkkhfiiokhnaatGrdBlk
import Derived.Test.YtfkkhfiiokhnaatGrdS2
namespace Go.Proofs.Ytfkkhfiiokhnaat
open Go.RowKit Go.BigFrame

theorem overS_step (gs : List GC) (row : Int) (k : Nat) (hk : k < gs.length) : (!(gs.take (k + 1)).any (overS row)) = ((!(gs.take k).any (overS row)) && !overS row (gs.getD k dG)) := by
  rw [List.take_succ_eq_append_getElem hk, List.any_append]
  simp [List.getD, hk]

set_option maxRecDepth 100000 in
set_option maxHeartbeats 4000000 in
theorem specGrdBlocks (R C : Int) (ac : Option Addr) (cc : Nat) (gs : List GC) (w : World) {z : Nat} (h : GsAt w z (.slice ac gs.length cc) gs) :
    Calls Try.prog 14 #[.agg #[.int .i64 R, .int .i64 C, .slice ac gs.length cc]] w fun e w' => ∃ v, e = .returned v ∧ RowI w' w.heap.size w'.heap.size v (blocksL ⟨R, C, gs⟩) ∧ Below w.heap.size w w' := by
  obtain ⟨_, _, _, hlen⟩ := At.form h
  unfold maxLen at hlen
  obtain ⟨i0, hi, hz0, hz1, hz2⟩ := info_parts infoIB
  have K0 := Hid.intro (k_alloc (k_alloc (Below.refl w.heap.size w) (.cells #[.int .i64 R, .int .i64 C, .slice ac gs.length cc] 29)) (.cells #[] 3))
  have H := Hid.intro h
  clear h
  have KO := Hid.intro (specGrdOk R C ac cc gs _ (H.out.kept K0.out))
  cases ho : okB ⟨R, C, gs⟩ with
  | false =>
    have HF := Hid.intro (blocksL_no ho)
    rw [ho] at KO
    clear ho
    go_enter Try.func14, Try.ntmps14
    go_wp2_with fail
    refine KO.out.mono ?_
    rintro e w1 ⟨rfl, hb1⟩
    have K1 := Hid.intro (k_trans K0.out hb1)
    have E1 : Hid (w1.heap[w.heap.size + 1]? = some (.cells #[] 3)) := Hid.intro ((hb1.block (w.heap.size + 1) (by simp)).trans (by have := newestB (w.alloc (.cells #[.int .i64 R, .int .i64 C, .slice ac gs.length cc] 29)) (.cells #[] 3); rwa [World.size_alloc] at this))
    clear hb1
    go_wp2
    go_ret
    refine ⟨_, rfl, ?_, K1.out⟩
    rw [HF.out]
    refine .inr ⟨w.heap.size + 1, 0, #[], rfl, by omega, (Array.getElem?_eq_some_iff.1 E1.out).1, E1.out, Nat.le_refl _, Nat.zero_le _, rfl, fun i hi => absurd hi (Nat.not_lt_zero _)⟩
  | true =>
    have HF := Hid.intro (blocksL_ok ho)
    rw [ho] at KO
    have ho2 := ho
    simp only [okB, Bool.and_eq_true] at ho2
    obtain ⟨hR1, hR2, hC1, hC2, hn⟩ := bounds_of ho2.1
    have HFit := Hid.intro (okTo_fits (Nat.le_refl _) ho2.2)
    rw [List.take_length] at HFit
    obtain ⟨Rn, rfl⟩ : ∃ Rn : Nat, R = Rn := ⟨R.toNat, by omega⟩
    clear ho ho2
    go_enter Try.func14, Try.ntmps14
    go_wp2_with fail
    refine KO.out.mono ?_
    rintro e w1 ⟨rfl, hb1⟩
    have K1 := Hid.intro (k_trans K0.out hb1)
    have X1 := Hid.intro ((hb1.block w.heap.size (by simp; omega)).trans ((Below.heap_alloc _ _ _ (by simp)).trans (newestB _ _)))
    have E1 : Hid (w1.heap[w.heap.size + 1]? = some (.cells #[] 3)) := Hid.intro ((hb1.block (w.heap.size + 1) (by simp)).trans (by have := newestB (w.alloc (.cells #[.int .i64 (Rn : Int), .int .i64 C, .slice ac gs.length cc] 29)) (.cells #[] 3); rwa [World.size_alloc] at this))
    have hs1 : w.heap.size + 2 ≤ w1.heap.size := by have := hb1.size; simp at this; omega
    have HO1 : Hid (w1.ownsRow (w.heap.size + 1) 3 1 (.slice (some ⟨w.heap.size + 1, 0, none⟩) 0 0) (blocksTo gs 0).length ((blocksTo gs 0).map (Value.int .i64))) :=
      ⟨by simp, .inr ⟨w.heap.size + 1, 0, #[], rfl, Nat.le_refl _, E1.out, Nat.le_refl _, Nat.zero_le _, rfl, rfl⟩⟩
    clear hb1
    go_wp2_with fail
    go_loopw [4, 3] (fun i v W => ∃ (k : Nat) (vb : Value), k ≤ Rn ∧ i = .int .i64 k ∧ v = vb ∧ Hid (W.ownsRow (w.heap.size + 1) 3 1 vb (blocksTo gs k).length ((blocksTo gs k).map (Value.int .i64))) ∧ Hid (Below w.heap.size w W) ∧ Hid (W.heap[w.heap.size]? = some (.cells #[.int .i64 (Rn : Int), .int .i64 C, .slice ac gs.length cc] 29)) ∧ w.heap.size + 2 ≤ W.heap.size) (fun i _ _ => Rn - (intOf i).toNat)
    case atStart => exact ⟨0, _, Nat.zero_le _, rfl, rfl, HO1, K1, X1, hs1⟩
    case round =>
      obtain ⟨k, vb, hk, rfl, rfl, HO, HB, HX, hsr⟩ := hrel
      have g0 : wr.cell? ⟨w.heap.size, 0, none⟩ = some (.int .i64 (Rn : Int)) := cellB HX.out
      by_cases hlt : k < Rn
      · have hbl := blocksTo_len gs k
        go_wp2_with fail
        go_loopw [6, 5] (fun i f W => ∃ (j n : Nat), j ≤ gs.length ∧ i = .int .i64 j ∧ f = .bool (!(gs.take j).any (overS (k : Int))) ∧ W = wr.drewN n) (fun i _ _ => gs.length - (intOf i).toNat)
        case atStart => exact ⟨0, 0, Nat.zero_le _, rfl, rfl, rfl⟩
        case round =>
          obtain ⟨j, nd, hj, rfl, rfl, rfl⟩ := hrel
          have g2 : wr.cell? ⟨w.heap.size, 2, none⟩ = some (.slice ac gs.length cc) := cellB HX.out
          by_cases hlj : j < gs.length
          · have hlj' : (j : Int) < (gs.length : Int) := by omega
            have h0' : (0 : Int) ≤ (j : Int) := by omega
            obtain ⟨q, off, cap', e', hc1, hc2, hbq, hx, hs⟩ := At.get (H.out.kept HB.out) hlj
            simp only [Value.slice.injEq, true_and] at e'
            obtain ⟨rfl, rfl⟩ := e'
            have HS := Hid.intro (overS_step gs (k : Int) j hlj)
            have hfit : fitsB (Rn : Int) C (gs.getD j dG) = true := HFit.out _ (by simp [List.getD, hlj])
            obtain ⟨e1, e2, e3, e4, f1, f2, f3, f4⟩ := fits_of hfit
            generalize gs.getD j dG = x at *
            generalize (!(gs.take j).any (overS (k : Int))) = fb at *
            obtain ⟨x0, x1, x2, x3, x4⟩ := hx
            unfold maxLen at hc2
            have b0 : 0 ≤ x.row ∧ x.row ≤ 8 ∧ 0 ≤ x.rows ∧ x.rows ≤ 8 := by omega
            clear hs hfit e1 e2 e3 e4 f1 f2 f3 f4
            cases fb with
            | false =>
              have HS' : Hid ((!(gs.take (j + 1)).any (overS (k : Int))) = false) := by show (!(gs.take (j + 1)).any (overS (k : Int))) = false; rw [HS.out]; rfl
              clear HS
              go_wp2_with fail
              go_quiet (fail)
              go_wp2
              go_roundw
              case rel => exact ⟨j + 1, nd + nq, by omega, by go_num, by rw [HS'.out], rfl⟩
              case measure => simp [intOf]; omega
            | true =>
              by_cases h1 : x.row < (k : Int)
              · have d1 : decide (x.row < (k : Int)) = true := decide_eq_true h1
                by_cases h2 : (k : Int) < x.row + x.rows
                · have d2 : decide ((k : Int) < x.row + x.rows) = true := decide_eq_true h2
                  have HS' : Hid ((!(gs.take (j + 1)).any (overS (k : Int))) = false) := by show (!(gs.take (j + 1)).any (overS (k : Int))) = false; rw [HS.out]; simp only [overS, d1, d2]; rfl
                  clear HS
                  go_wp2_with fail
                  go_quiet (fail)
                  go_wp2
                  go_roundw
                  case rel => exact ⟨j + 1, nd + nq, by omega, by go_num, by rw [HS'.out], rfl⟩
                  case measure => simp [intOf]; omega
                · have d2 : decide ((k : Int) < x.row + x.rows) = false := decide_eq_false h2
                  have HS' : Hid ((!(gs.take (j + 1)).any (overS (k : Int))) = true) := by show (!(gs.take (j + 1)).any (overS (k : Int))) = true; rw [HS.out]; simp only [overS, d1, d2]; rfl
                  clear HS
                  go_wp2_with fail
                  go_quiet (fail)
                  go_wp2
                  go_roundw
                  case rel => exact ⟨j + 1, nd + nq, by omega, by go_num, by rw [HS'.out], rfl⟩
                  case measure => simp [intOf]; omega
              · have d1 : decide (x.row < (k : Int)) = false := decide_eq_false h1
                have HS' : Hid ((!(gs.take (j + 1)).any (overS (k : Int))) = true) := by show (!(gs.take (j + 1)).any (overS (k : Int))) = true; rw [HS.out]; simp only [overS, d1]; rfl
                clear HS
                go_wp2_with fail
                go_quiet (fail)
                go_wp2
                go_roundw
                case rel => exact ⟨j + 1, nd + nq, by omega, by go_num, by rw [HS'.out], rfl⟩
                case measure => simp [intOf]; omega
          · obtain rfl : j = gs.length := by omega
            have HO2 : Hid ((wr.drewN nd).ownsRow (w.heap.size + 1) 3 1 _ (blocksTo gs k).length ((blocksTo gs k).map (Value.int .i64))) := HO.out
            have HB2 := Hid.intro (k_drewN HB.out nd)
            have HX2 : Hid ((wr.drewN nd).heap[w.heap.size]? = some (.cells #[.int .i64 (Rn : Int), .int .i64 C, .slice ac gs.length cc] 29)) := HX.out
            have hs2 : w.heap.size + 2 ≤ (wr.drewN nd).heap.size := hsr
            have hfb : (!(gs.take gs.length).any (overS (k : Int))) = !crossS gs (k : Int) := by rw [List.take_length]; rfl
            rw [hfb]
            clear hfb
            generalize wr.drewN nd = w2 at *
            have g3 : w2.cell? ⟨w.heap.size, 2, none⟩ = some (.slice ac gs.length cc) := cellB HX2.out
            cases h1 : crossS gs (k : Int) with
            | true =>
              have HS := Hid.intro (blocksTo_out h1)
              rw [show (!true) = false from rfl]
              clear h1
              go_wp2
              go_roundw
              case rel => exact ⟨k + 1, _, by omega, by go_num, rfl, by rw [HS.out]; exact HO2, HB2, HX2, hs2⟩
              case measure => simp [intOf]; omega
            | false =>
              have HS := Hid.intro (blocksTo_in h1)
              have hO2 := HO2.out
              rw [show (!false) = true from rfl]
              clear h1 HO HO2
              go_wp2_with (at_builtin; refine wpList_append_own _ rfl _ _ 35 rfl (w.heap.size + 1) 3 i0 (.int .i64 0) 1 8 Try.underlying35 hi hz0 hz1 hz2 rfl (by decide) _ _ _ rfl (hO2.alloc _) ⟨w2.heap.size, 0, none⟩ 1 1 [.int .i64 (k : Int)] rfl rfl ?c1 ?c2 ?c3 ?c4 ?c5 ?_)
              case c1 =>
                intro i u hi
                match i, hi with
                | 0, hi => simp at hi; subst hi; simp [Addr.add]
              case c2 => intro u hu; simp at hu; subst hu; rfl
              case c3 => unfold maxLen; omega
              case c4 => omega
              case c5 => simp; omega
              intro v' w5 hown' hgrow' _
              have hne := own_ne hO2 (Nat.lt_succ_self w.heap.size)
              have HB5 : Hid (Below w.heap.size w w5) := (k_alloc HB2.out _).grown hgrow' (by simp; omega) (fun j e => by have := own_ge hO2 e; omega)
              have HX5 : Hid (w5.heap[w.heap.size]? = _) := Hid.intro ((hgrow'.block w.heap.size (by simp; omega) hne).trans ((Below.heap_alloc _ _ _ (by omega)).trans HX2.out))
              have hs5 : w.heap.size + 2 ≤ w5.heap.size := by have := hgrow'.size; simp at this; omega
              have HO5 : Hid (w5.ownsRow (w.heap.size + 1) 3 1 v' (blocksTo gs (k + 1)).length ((blocksTo gs (k + 1)).map (Value.int .i64))) := Hid.intro (by rw [HS.out]; simpa using hown')
              obtain ⟨g', cap', rfl⟩ := Joins.ownsRow_form hown' (by omega)
              clear hown' hgrow' hO2 hne
              go_wp2
              go_roundw
              case rel => exact ⟨k + 1, _, by omega, by go_num, rfl, HO5, HB5, HX5, hs5⟩
              case measure => simp [intOf]; omega
      · obtain rfl : k = Rn := by omega
        go_wp2
        go_ret
        refine ⟨_, rfl, ?_, HB.out⟩
        rw [HF.out]
        exact (RowI.of_owns HO.out).base (by omega) (Nat.le_refl _)
end Go.Proofs.Ytfkkhfiiokhnaat
