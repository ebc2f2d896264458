/-
  PROVED HERE: DrawGrdEmpty draws a grid; nothing that was in memory is turned. Also: the law FnGrdEmpty returns true at every code that lies in memory.
-/
import Derived.Test.YtggmjiddadjilacB22
import Derived.Test.YtggmjiddadjilacB20
import Derived.Test.YtggmjiddadjilacB21
import Derived.Test.YtggmjiddadjilacB14
import Derived.Test.YtggmjiddadjilacB4
import Derived.Deep.DeepCutAuto
import Derived.Deep.RegionWith
import Derived.Deep.LoopGhost
namespace Go.Proofs.Ytggmjiddadjilac
open Go.RowKit

set_option maxRecDepth 100000 in
set_option maxHeartbeats 1000000 in
theorem dGrdEmpty_any (a : Option Addr) (len cap : Nat) (w : World) (h : IsCode w a len cap) :
    Calls Try.prog 8 #[.slice a len cap] w fun e w' => GrdPost w e w' := by
  have K0 := k_alloc (Below.refl w.heap.size w) (.cells #[.int .i64 0, .int .i64 0, .slice none 0 0] 25)
  have HC := Hid.intro (code_kept h K0)
  have X0 := newestB w (.cells #[.int .i64 0, .int .i64 0, .slice none 0 0] 25)
  clear h
  have hsz : (w.alloc (.cells #[.int .i64 0, .int .i64 0, .slice none 0 0] 25)).heap.size = w.heap.size + 1 := by simp
  go_enter Try.func8, Try.ntmps8
  go_wp2_with fail
  refine (open_any _ _ _ _ HC.out).mono ?_
  rintro e w1 ⟨rfl, hR1, hb1⟩
  rw [hsz] at hR1 hb1
  have X1 := (hb1.block w.heap.size (by omega)).trans X0
  have K1 := k_trans K0 (by rw [hsz]; exact hb1)
  have hz1 := hR1.lt
  go_wp2_with fail
  refine (l20Grid_any (w.heap.size + 1) 0 8 (by omega) _ hR1 (by omega)).mono ?_
  rintro e w2 ⟨va, vq, g, rfl, hG, hIr, hIc, hlen, hR2, hb2, h99⟩
  have X2 := (hb2.block w.heap.size (by omega) (by omega)).trans X1
  have K2 := K1.trans (hb2.below (by omega) (by omega))
  have hz2 : w.heap.size + 1 < w2.heap.size := hR2.lt
  have HP := Hid.intro (grd_post hG (by omega) (by omega) K2 hIr hIc hlen)
  obtain ⟨⟨x0, x1, x2⟩, y0, y1, y2⟩ := threeZ X2
  clear h99 hG hR2 hb2 X2 X1 X0 K0 K1 K2 HC hR1 hb1
  go_wp2
  exact bodyPost_ret (v := .agg #[.int .i64 g.rows, .int .i64 g.cols, .slice va g.cells.length vq]) (by simp [results, Try.results8, go_sem, x0, x1, x2]) rfl HP.out
end Go.Proofs.Ytggmjiddadjilac
namespace Go.Proofs.Ytggmjiddadjilac
open Go.RowKit

set_option maxRecDepth 100000 in
set_option maxHeartbeats 2000000 in
theorem lawGrdEmpty_walk (A : Option Addr) (len cap : Nat) (hlen : len ≤ 1048576) (w : World) (h : IsCode w A len cap) :
    Calls Try.prog 3 #[.slice A len cap] w fun e w' => e = .returned (.bool true) ∧ Below w.heap.size w w' := by
  have hl : ¬ (1048576 : Int) < (len : Int) := by omega
  have hmx : Try.prog.follows .mixedOrders = true := by kernel_rfl
  have HD := Hid.intro h
  clear h
  go_enter Try.func3, Try.ntmps3
  go_wp2_with fail
  refine (dGrdEmpty_any _ _ _ _ HD.out).mono ?_
  rintro e w1 ⟨va, vq, g, rfl, F⟩
  have HS := Hid.intro (SGd.mk' F)
  clear F HD
  obtain ⟨W1, hW1⟩ : ∃ W1, w1.alloc (.cells #[.int .i64 g.rows, .int .i64 g.cols, .slice va g.cells.length vq] 25) = W1 := ⟨_, rfl⟩
  rw [hW1] at HS
  generalize hgb : w1.heap.size = gb at HS
  go_upto_region 4 with fail
  clear hW1 hgb
  obtain ⟨q0, q1, q2⟩ := HS.out.cells
  go_wp2_with fail
  refine (implGrdEmpty g.rows g.cols va vq g.cells W1 HS.out.at').mono ?_
  rintro e W2 ⟨rfl, hb2⟩
  replace HS := Hid.intro (HS.out.kept hb2)
  clear hb2 q0 q1 q2
  go_upto_region 5 with fail
  have m0 := bw_cell (a := ⟨gb, 0, none⟩) HS.out.lt HS.out.cells.1
  have m1 := bw_cell (a := ⟨gb, 1, none⟩) HS.out.lt HS.out.cells.2.1
  have m2 := bw_cell (a := ⟨gb, 2, none⟩) HS.out.lt HS.out.cells.2.2
  have hne := bw_some W2
  have KE := Hid.intro (fun (p : BW W2) => bw_of (specGrdEmpty g.rows g.cols va vq g.cells p.u (HS.out.kept p.h).at'))
  have KI := Hid.intro (fun (p : BW W2) => bw_of (implGrdOk g.rows g.cols va vq g.cells p.u (HS.out.kept p.h).at'))
  have KS := Hid.intro (fun (p : BW W2) => bw_of (specGrdOk g.rows g.cols va vq g.cells p.u (HS.out.kept p.h).at'))
  obtain ⟨ok, hok⟩ : ∃ ok, okB ⟨g.rows, g.cols, g.cells⟩ = ok := ⟨_, rfl⟩
  have HE := Hid.intro (fun h : ok = true => empty_count (g := g) (hok.trans h))
  have HN := Hid.intro (fun h : ok = false => emptyOf_no (g := g) (hok.trans h))
  rw [hok] at KI KS
  have hokk := Hid.intro hok
  clear hok
  generalize emptyOf ⟨g.rows, g.cols, g.cells⟩ = E at *
  have e1 : (E != E) = false := by simp
  have e2 : (ok != ok) = false := by simp
  refine wp_region_quiet_below hmx (by kernel_rfl) ?_
  repeat (go_big_quiet_step (first | (go_at_call 10; refine KE.out _) | (go_at_call 11; refine KI.out _) | (go_at_call 12; refine KS.out _)))
  refine wpQuiet_nil ?_
  intro W3 hw'
  obtain ⟨⟨Wx, hW3⟩, hw''⟩ := hw'
  subst hw''
  replace HS := Hid.intro (HS.out.kept hW3)
  clear m0 m1 m2 hne KE KI KS hW3 e1 e2
  obtain ⟨q0, q1, q2⟩ := HS.out.cells
  have KO := Hid.intro (specGrdOk g.rows g.cols va vq g.cells _ HS.out.at')
  rw [hokk.out] at KO
  go_wp2_with fail
  refine KO.out.mono ?_
  rintro e W4 ⟨rfl, hb4⟩
  replace HS := Hid.intro (HS.out.kept hb4)
  clear hb4 q0 q1 q2 KO hokk
  cases ok with
  | false =>
    have hE := HN.out rfl
    subst hE
    go_wp2_with fail
    refine (pwOk_any _).mono ?_
    rintro e w5 ⟨rfl, rfl⟩
    go_wp2
    go_ret
    exact ⟨rfl, HS.out.below⟩
  | true =>
    obtain ⟨hE, hr1, hr8, hc1, hc94, hm1⟩ := HE.out rfl
    obtain ⟨R, hR⟩ : ∃ R : Nat, g.rows = R := ⟨g.rows.toNat, by omega⟩
    obtain ⟨C, hC⟩ : ∃ C : Nat, g.cols = C := ⟨g.cols.toNat, by omega⟩
    rw [hR, hC, Int.toNat_natCast, Int.toNat_natCast] at hE
    have hA := eA_le g.cells C
    have HEq := Hid.intro hE
    have HM1 := Hid.intro hm1
    have hR8 : R ≤ 8 := by omega
    have hC94 : C ≤ 94 := by omega
    have HRr := Hid.intro hR
    have HCc := Hid.intro hC
    clear hE hm1 HE HN hr1 hr8 hc1 hc94 hR hC
    have HS0 := HS
    go_upto_region 9 with fail
    go_wp2_with fail
    go_loopw [5, 6] (fun s5 s6 W => ∃ r : Nat, s6 = .int .i64 r ∧ r ≤ R ∧ s5 = .int .i64 (eA g.cells C r : Nat) ∧ Hid (SGd w gb va vq g W)) (fun _ s6 _ => R - (intOf s6).toNat)
    case atStart => exact ⟨0, rfl, Nat.zero_le _, rfl, HS0⟩
    case round => as_aux_lemma =>
      clear HS HS0
      obtain ⟨r, rfl, hr, rfl, HS⟩ := hrel
      obtain ⟨q0, q1, q2⟩ := HS.out.cells
      rw [HRr.out] at q0
      rw [HCc.out] at q1
      have hAr : eA g.cells C r ≤ 8 * 94 := Nat.le_trans (hA r) (Nat.mul_le_mul (by omega) hC94)
      by_cases hrR : r < R
      case neg =>
        obtain rfl : r = R := by omega
        have hEE : (((eA g.cells C r : Nat) : Int) == E) = true := beq_iff_eq.2 HEq.out
        have KA := Hid.intro (implGrdAt g.rows g.cols va vq g.cells (-1) 0 (by unfold I64; omega) (by unfold I64; omega) _ HS.out.at')
        rw [HM1.out, HRr.out, HCc.out] at KA
        go_wp2_with fail
        refine KA.out.mono ?_
        rintro e W5 ⟨rfl, hb5⟩
        replace HS := Hid.intro (HS.out.kept hb5)
        clear hb5
        go_wp2_with fail
        refine (pwOk_any _).mono ?_
        rintro e w5 ⟨rfl, rfl⟩
        go_wp2
        go_ret
        exact ⟨rfl, HS.out.below⟩
      have HS1 := HS
      clear q0 q1 q2
      obtain ⟨q0, q1, q2⟩ := HS.out.cells
      rw [HRr.out] at q0
      rw [HCc.out] at q1
      go_wp2_with fail
      go_loopw [5, 7] (fun s5 s7 W => ∃ c : Nat, s7 = .int .i64 c ∧ c ≤ C ∧ s5 = .int .i64 ((eA g.cells C r + eR g.cells r c : Nat) : Int) ∧ Hid (SGd w gb va vq g W)) (fun _ s7 _ => C - (intOf s7).toNat)
      case atStart => exact ⟨0, rfl, Nat.zero_le _, rfl, HS1⟩
      case round => as_aux_lemma =>
        clear HS HS1 q0 q1 q2
        obtain ⟨c, rfl, hc, rfl, HS⟩ := hrel
        obtain ⟨q0, q1, q2⟩ := HS.out.cells
        rw [HRr.out] at q0
        rw [HCc.out] at q1
        by_cases hcC : c < C
        case neg =>
          obtain rfl : c = C := by omega
          have HES := Hid.intro (eA_succ g.cells c r)
          go_wp2
          go_roundw
          case rel => exact ⟨r + 1, by go_num, by omega, by rw [HES.out], HS⟩
          case measure => simp [intOf]; omega
        have hRr := eR_le g.cells r c
        have HEC := Hid.intro (eR_succ g.cells r c)
        have KA := Hid.intro (implGrdAt g.rows g.cols va vq g.cells (r : Int) (c : Int) (by unfold I64; omega) (by unfold I64; omega) _ HS.out.at')
        rw [HRr.out, HCc.out] at KA
        unfold noC at HEC
        generalize findTo (holdsB (r : Int) (c : Int)) g.cells = k at HEC KA
        generalize eA g.cells C r = a0 at *
        generalize eR g.cells r c = a1 at *
        go_wp2_with fail
        refine KA.out.mono ?_
        rintro e W5 ⟨rfl, hb5⟩
        replace HS := Hid.intro (HS.out.kept hb5)
        clear hb5 q0 q1 q2 KA
        by_cases hk : k < 0
        · have hE2 := HEC.out
          rw [if_pos (by simpa using hk)] at hE2
          have HE2 := Hid.intro hE2
          clear hE2 HEC
          go_wp2
          go_roundw
          case rel => exact ⟨c + 1, by go_num, by omega, by have h9 := HE2.out; congr 1; omega, HS⟩
          case measure => simp [intOf]; omega
        · have hE2 := HEC.out
          rw [if_neg (by simpa using hk)] at hE2
          have HE2 := Hid.intro hE2
          clear hE2 HEC
          go_wp2
          go_roundw
          case rel => exact ⟨c + 1, by go_num, by omega, by have h9 := HE2.out; congr 1; omega, HS⟩
          case measure => simp [intOf]; omega
theorem lawGrdEmpty (A : Option Addr) (len cap : Nat) (w : World) (h : IsCode w A len cap) :
    Calls Try.prog 3 #[.slice A len cap] w fun e w' => e = .returned (.bool true) ∧ Below w.heap.size w w' := by
  by_cases hl : len ≤ 1048576
  · exact lawGrdEmpty_walk A len cap hl w h
  · have hl' : (1048576 : Int) < (len : Int) := by omega
    go_enter Try.func3, Try.ntmps3
    go_wp2
    go_ret
    exact ⟨rfl, Below.refl _ _⟩
end Go.Proofs.Ytggmjiddadjilac
