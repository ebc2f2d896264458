/-
  PROVED HERE: the law FnWidSum returns true at every code that lies in memory.
-/
import Derived.Test.YtfkkhfiiokhnaaeGreatB43
import Derived.Test.YtfkkhfiiokhnaaeGreatB51
import Derived.Test.YtfkkhfiiokhnaaeGreatB52
import Derived.Test.YtfkkhfiiokhnaaeGreatB54
import Derived.Test.YtfkkhfiiokhnaaeGreatB36
namespace Go.Proofs.YtfkkhfiiokhnaaeGreat
open Go.RowKit Go.BigFrame

set_option maxRecDepth 100000 in
set_option maxHeartbeats 4000000 in
theorem lawWidSum_walk (A : Option Addr) (len cap : Nat) (hlen : len ≤ 1048576) (w : World) (h : IsCode w A len cap) :
    Calls Tryz.prog 4 #[.slice A len cap] w fun e w' => e = .returned (.bool true) ∧ Below w.heap.size w w' := by
  have hl : ¬ (1048576 : Int) < (len : Int) := by omega
  have hmx : Tryz.prog.follows .mixedOrders = true := by kernel_rfl
  have hf1 := fieldG1
  have HD := Hid.intro h
  clear h
  go_enter Tryz.func4, Tryz.ntmps4
  go_wp2_with fail
  refine (drawWidCols_any _ _ _ _ HD.out).mono ?_
  rintro e w1 ⟨ac, ar, cc, cr, t, x, rfl, hD, hxb, hC1, hW1, hb1⟩
  have HS : Hid (St w w1.heap.size ac ar cc cr t (w1.alloc (.cells #[.slice ac t.cols.length cc, .int .i64 t.head, .int .i64 t.foot, .slice ar t.rows.length cr, .int .i64 t.gap] 26))) := ⟨hb1.alloc hb1.size _, TA.kept ⟨hC1, hW1⟩ (k_alloc (Below.refl _ _) _), newestB _ _⟩
  have HDr := Hid.intro hD
  have HNo : Hid ((tblB t && inB x 0 300) = false → widT t x = [] ∧ tabV t x = 0) := fun h => ⟨by unfold widT; rw [h]; rfl, tabV_no h⟩
  have HYes := Hid.intro (fun h1 h2 => acr_wid hD (t := t) h1 (width := x) h2)
  have HLe := Hid.intro (fun h1 => acr_least hD (t := t) h1)
  have HCN : Hid ((gOf t).cols = (colN t : Int)) := by
    obtain ⟨_, C, hgc, _, _⟩ := cel_of hD
    rw [Hid, colN_of hgc]; exact hgc
  have HWi := Hid.intro (fun W (h : TA W w.heap.size ac ar cc cr t) => implWidCols ac ar cc cr t hD x W h.1 h.2)
  have HWs := Hid.intro (fun W (h : TA W w.heap.size ac ar cc cr t) => specWidCols ac ar cc cr t hD x W h.1 h.2)
  have HTi : Hid (∀ W, TA W w.heap.size ac ar cc cr t → Calls Tryz.prog 15 #[.agg #[.slice ac t.cols.length cc, .int .i64 t.head, .int .i64 t.foot, .slice ar t.rows.length cr, .int .i64 t.gap], .int .i64 x] W fun e w' => e = .returned (.int .i64 (tabV t x)) ∧ Below W.heap.size W w') := fun W h => implWidTable ac ar cc cr t hD x W h.1 h.2
  have HTs := Hid.intro (fun W (h : TA W w.heap.size ac ar cc cr t) => specWidTable ac ar cc cr t hD x W h.1 h.2)
  have HCf := Hid.intro (fun W (h : TA W w.heap.size ac ar cc cr t) => implColFloor ac ar cc cr t hD W h.1 h.2)
  have HCa := Hid.intro (fun W (h : TA W w.heap.size ac ar cc cr t) => implColAllFixed ac ar cc cr t hD W h.1 h.2)
  clear hC1 hW1 hb1 hD HD
  go_upto_region 4 with fail
  generalize w1.alloc (.cells #[.slice ac t.cols.length cc, .int .i64 t.head, .int .i64 t.foot, .slice ar t.rows.length cr, .int .i64 t.gap] 26) = W1 at HS ⊢
  generalize w1.heap.size = tb at HS ⊢
  generalize hWL : widT t x = WL at HNo HYes HWi HWs
  have HWL := Hid.intro hWL
  clear hWL
  generalize hn : tabV t x = n at HNo HYes HTi HTs
  have Hn := Hid.intro hn
  clear hn
  have hnn : (n != n) = false := by simp
  obtain ⟨z0, z1, z2, z3, z4⟩ := HS.out.at
  go_wp2_with fail
  refine (HWi.out _ HS.out.2.1).mono ?_
  rintro e w2 ⟨v2, rfl, hR2, hb2⟩
  obtain ⟨al, cl, rfl⟩ := hR2.form
  have HI := Hid.intro hR2.at
  replace HS := Hid.intro (HS.out.kept hb2)
  clear hR2 hb2 z0 z1 z2 z3 z4 HWi
  obtain ⟨z0, z1, z2, z3, z4⟩ := HS.out.at
  go_wp2_with fail
  refine (HTi.out _ HS.out.2.1).mono ?_
  rintro e w3 ⟨rfl, hb3⟩
  replace HI := Hid.intro (HI.out.kept hb3)
  replace HS := Hid.intro (HS.out.kept hb3)
  clear hb3 z0 z1 z2 z3 z4 HTi
  obtain ⟨z0, z1, z2, z3, z4⟩ := HS.out.at
  go_wp2_with fail
  refine (HWs.out _ HS.out.2.1).mono ?_
  rintro e w4 ⟨v4, rfl, hR4, hb4⟩
  obtain ⟨a4, c4, rfl⟩ := hR4.form
  have HJ := Hid.intro hR4.at
  replace HI := Hid.intro (HI.out.kept hb4)
  replace HS := Hid.intro (HS.out.kept hb4)
  clear hR4 hb4 z0 z1 z2 z3 z4 HWs
  go_wp2_with fail
  refine (pwInts_any _ _ WL _ HI.out HJ.out).mono ?_
  rintro e w5 ⟨rfl, n5, e5⟩
  have HI5 : Hid (IntsAt w5 (.slice al WL.length cl) WL) := by rw [e5]; exact HI.out.kept (k_drewN (Below.refl _ _) n5)
  have HS5 : Hid (St w tb ac ar cc cr t w5) := by rw [e5]; exact HS.out.kept (k_drewN (Below.refl _ _) n5)
  clear e5 HI HJ HS
  obtain ⟨z0, z1, z2, z3, z4⟩ := HS5.out.at
  go_wp2_with fail
  refine (HTs.out _ HS5.out.2.1).mono ?_
  rintro e w6 ⟨rfl, hb6⟩
  have HI := Hid.intro (HI5.out.kept hb6)
  have HS := Hid.intro (HS5.out.kept hb6)
  clear hb6 z0 z1 z2 z3 z4 HTs HI5 HS5
  obtain ⟨z0, z1, z2, z3, z4⟩ := HS.out.at
  have KO := Hid.intro (specTblOk ac ar cc cr t w6 HS.out.2.1.1 HS.out.2.1.2)
  by_cases hall : (tblB t && inB x 0 300) = true
  case neg => as_aux_lemma =>
    have hall' : (tblB t && inB x 0 300) = false := Bool.eq_false_iff.2 hall
    obtain ⟨e1, e2⟩ := HNo.out hall'
    subst e1 e2
    clear HYes HNo HLe HCf HCa HWL Hn hall
    cases htk : tblB t with
    | false =>
      rw [htk] at KO
      clear htk hall'
      go_wp2_with fail
      refine KO.out.mono ?_
      rintro e w7 ⟨rfl, hb7⟩
      have HK := Hid.intro (HS.out.kept hb7).1
      clear hb7 KO z0 z1 z2 z3 z4
      go_wp2_with fail
      refine (pwOk_any _).mono ?_
      rintro e w8 ⟨rfl, rfl⟩
      go_wp2
      go_ret
      exact ⟨rfl, HK.out⟩
    | true =>
      rw [htk] at KO hall'
      have hx : x < 0 ∨ 300 < x := by
        have h2 : inB x 0 300 = false := by simpa using hall'
        simp only [inB, decide_eq_false_iff_not] at h2
        omega
      clear htk hall'
      rcases hx with hx | hx
      · go_wp2_with fail
        refine KO.out.mono ?_
        rintro e w7 ⟨rfl, hb7⟩
        have HK := Hid.intro (HS.out.kept hb7).1
        clear hb7 KO z0 z1 z2 z3 z4
        go_wp2_with fail
        refine (pwOk_any _).mono ?_
        rintro e w8 ⟨rfl, rfl⟩
        go_wp2
        go_ret
        exact ⟨rfl, HK.out⟩
      · have hx0 : ¬ x < 0 := by omega
        go_wp2_with fail
        refine KO.out.mono ?_
        rintro e w7 ⟨rfl, hb7⟩
        have HK := Hid.intro (HS.out.kept hb7).1
        clear hb7 KO z0 z1 z2 z3 z4
        go_wp2_with fail
        refine (pwOk_any _).mono ?_
        rintro e w8 ⟨rfl, rfl⟩
        go_wp2
        go_ret
        exact ⟨rfl, HK.out⟩
  case pos => as_aux_lemma =>
    obtain ⟨htk, hin⟩ := Bool.and_eq_true_iff.1 hall
    have hx : 0 ≤ x ∧ x ≤ 300 := by simpa [inB] using hin
    obtain ⟨f0, f1, f2, f3, f4, f5, f6, f7, f8⟩ := HYes.out htk hx
    obtain ⟨g1, g2, g3, g4, g5, _⟩ := HLe.out htk
    have HLn : Hid (WL.length = colN t) := by rw [Hid, f0]; exact f1
    have HAl : Hid (WL.all wtB = true) := by rw [Hid, f0]; exact f3
    have HSm : Hid (n = WL.sum + t.gap * ((colN t : Int) - 1)) := by rw [Hid, f0]; exact f2
    have hs0 : 0 ≤ WL.sum ∧ WL.sum ≤ 1000000 := by rw [f0]; exact ⟨f4, f5⟩
    have hM : WL.length ≤ 88 := by rw [HLn.out]; exact g2
    have hM1 : 1 ≤ WL.length := by rw [HLn.out]; exact g1
    have HW8 := Hid.intro f8
    rw [htk] at KO
    have hx0 : ¬ x < 0 := by omega
    have hx3 : ¬ 300 < x := by omega
    have HK2 : Hid (∀ W, TA W w.heap.size ac ar cc cr t → Calls Tryz.prog 21 #[.agg #[.slice ac t.cols.length cc, .int .i64 t.head, .int .i64 t.foot, .slice ar t.rows.length cr, .int .i64 t.gap]] W fun e w' => e = .returned (.bool (allFix t)) ∧ Below W.heap.size W w') := fun W h => by have k := HCa.out W h; rw [htk] at k; simpa using k
    rw [← HLn.out] at HSm f6 f7
    have HgL : Hid ((gOf t).cols = (WL.length : Int)) := by rw [Hid, HCN.out, HLn.out]
    clear f0 f1 f2 f3 f4 f5 f8 g1 g2 g3 HYes HNo HLe HCa hall htk hin HWL Hn HCN HLn
    generalize acrV (leastL t) t.gap = fl at HCf HW8 g4 g5
    go_wp2_with fail
    refine KO.out.mono ?_
    rintro e w7 ⟨rfl, hb7⟩
    replace HI := Hid.intro (HI.out.kept hb7)
    replace HS := Hid.intro (HS.out.kept hb7)
    clear hb7 KO z0 z1 z2 z3 z4
    obtain ⟨z0, z1, z2, z3, z4⟩ := HS.out.at
    go_wp2_with fail
    refine (HCf.out _ HS.out.2.1).mono ?_
    rintro e w8 ⟨rfl, hb8⟩
    replace HI := Hid.intro (HI.out.kept hb8)
    replace HS := Hid.intro (HS.out.kept hb8)
    clear hb8 z0 z1 z2 z3 z4 HCf
    obtain ⟨z0, z1, z2, z3, z4⟩ := HS.out.at
    have HN1 : Hid ((decide (x < fl) || allFix t) = true → n = fl) := fun h => by rw [HW8.out, if_pos (by simpa using h)]
    have HN0 : Hid ((decide (x < fl) || allFix t) = false → n = x) := fun h => by rw [HW8.out, if_neg (by simpa using h)]
    generalize hbb : (decide (x < fl) || allFix t) = bb at HN1 HN0
    have HBB := Hid.intro hbb
    clear hbb HW8
    go_upto_region 12 with fail
    go_cut [66] (fun s W => s = .bool bb ∧ Hid (St w tb ac ar cc cr t W) ∧ Hid (IntsAt W (.slice al WL.length cl) WL))
    case first =>
      by_cases hlt : x < fl
      · have hb1 : bb = true := by rw [← HBB.out]; simp [hlt]
        subst hb1
        clear HBB
        go_wp2_with fail
        go_meet
        case rel => exact ⟨rfl, HS, HI⟩
      · have hb1 : bb = allFix t := by rw [← HBB.out]; simp [hlt]
        subst hb1
        clear HBB
        go_wp2_with fail
        refine (HK2.out _ HS.out.2.1).mono ?_
        rintro e w9 ⟨rfl, hb9⟩
        replace HI := Hid.intro (HI.out.kept hb9)
        replace HS := Hid.intro (HS.out.kept hb9)
        clear hb9 z0 z1 z2 z3 z4
        go_wp2_with fail
        go_meet
        case rel => exact ⟨rfl, HS, HI⟩
    case rest =>
      clear z0 z1 z2 z3 z4 HS HI
      obtain ⟨rfl, HS, HI⟩ := hcut
      go_upto_if 66 with fail
      go_cut [8] (fun s W => s = .int .i64 n ∧ Hid (St w tb ac ar cc cr t W) ∧ Hid (IntsAt W (.slice al WL.length cl) WL))
      case first =>
        cases bb with
        | true =>
          obtain rfl := HN1.out rfl
          go_wp2_with fail
          go_meet
          case rel => exact ⟨rfl, HS, HI⟩
        | false =>
          obtain rfl := HN0.out rfl
          go_wp2_with fail
          go_meet
          case rel => exact ⟨rfl, HS, HI⟩
      case rest =>
        clear HS HI
        obtain ⟨rfl, HS, HI⟩ := hcut
        rename World => Wc
        go_upto_region 14 with fail
        as_aux_lemma =>
          have hne := bw_some Wc
          have htb := (Array.getElem?_eq_some_iff.1 HS.out.2.2).1
          have m4 := bw_cell (a := ⟨tb, 4, none⟩) htb (cellB (p := 4) HS.out.2.2)
          have KS := Hid.intro (fun (p : BW Wc) => bw_same (lawspwSum_any _ WL (by omega) HAl.out p.u (HI.out.kept p.h)))
          have HSm2 := HSm.out
          generalize WL.sum = sm at KS HSm2 hs0
          generalize hgp : t.gap * ((WL.length : Int) - 1) = gp at HSm2 f6 f7
          have hnn1 : (n == n) = true := by simp
          have hsg : sm + gp = n := by omega
          clear HSm HSm2
          refine wp_region_tail 16 8 hmx (by rfl) (by rfl) (by kernel_rfl) (by kernel_rfl) (by kernel_rfl) ?_
          simp only [List.take_succ_cons, List.take_zero]
          repeat (go_big_quiet_step (first | (go_at_call 12; refine KS.out _)))
          refine wpQuiet_nil ?_
          intro W5 hw'
          obtain ⟨⟨Wx, hW5⟩, hw''⟩ := hw'
          subst hw''
          have HS5 := Hid.intro (HS.out.kept hW5)
          have HB5 := Hid.intro HS5.out.1
          obtain ⟨z0, z1, z2, z3, z4⟩ := HS5.out.at
          have hgl := HgL.out
          have KG : Hid (∀ W, Below w.heap.size w W → W = W5 ∨ W = W5 → True) := fun _ _ _ => trivial
          clear KG
          clear m4 KS hne hW5 HI HS htb
          rw [if_pos (by rfl)]
          go_simp
          refine wpAny_ready (rs := [17, 19]) (by kernel_rfl) (by simp) ?_
          refine AllReady.cons rfl (fun K hK => ?_) (AllReady.cons rfl (fun K hK => ?_) AllReady.nil)
          · go_simp
            refine hK _ _ ?_
            clear hK K
            refine wpAny_ready (rs := [18, 19]) (by kernel_rfl) (by simp) ?_
            refine AllReady.cons rfl (fun K hK => ?_) (AllReady.cons rfl (fun K hK => ?_) AllReady.nil)
            · go_simp
              refine hK _ _ ?_
              clear hK K
              refine wpAny_ready (rs := [19]) (by kernel_rfl) (by simp) ?_
              refine AllReady.cons rfl (fun K hK => ?_) AllReady.nil
              go_simp
              refine hK _ _ ?_
              clear hK K
              refine wpAny_ready (rs := [20]) (by kernel_rfl) (by simp) ?_
              refine AllReady.cons rfl (fun K hK => ?_) AllReady.nil
              go_simp
              go_wp2_with (go_at_call 14; refine (implGrdOf ac ar cc cr t HDr.out _ HS5.out.2.1.1 HS5.out.2.1.2).mono ?_; rintro e w6 ⟨vg, rfl, hO6, hb6⟩; obtain ⟨ag, cg, rfl⟩ := own_slice hO6; rw [hgl]; have HB6 := Hid.intro (k_trans HB5.out hb6); clear hO6 hb6)
              refine wpAny_ready (rs := [21]) (by kernel_rfl) (by simp) ?_
              refine AllReady.cons rfl (fun K hK => ?_) AllReady.nil
              go_simp
              refine hK _ _ ?_
              clear hK K
              refine wpAny_ready (rs := [22]) (by kernel_rfl) (by simp) ?_
              refine AllReady.cons rfl (fun K hK => ?_) AllReady.nil
              go_simp
              refine hK _ _ ?_
              clear hK K
              refine wpAny_ready (rs := [23]) (by kernel_rfl) (by simp) ?_
              refine AllReady.cons rfl (fun K hK => ?_) AllReady.nil
              go_simp
              refine hK _ _ ?_
              clear hK K
              refine wpAny_ready (rs := [24]) (by kernel_rfl) (by simp) ?_
              refine AllReady.cons rfl (fun K hK => ?_) AllReady.nil
              go_simp
              refine hK _ _ ?_
              clear hK K
              refine wpAny_done (by kernel_rfl) ?_ _
              go_wp2
              go_ret
              exact ⟨rfl, HB6.out⟩
            · go_simp
              refine hK _ _ ?_
              clear hK K
              refine wpAny_ready (rs := [18, 20]) (by kernel_rfl) (by simp) ?_
              refine AllReady.cons rfl (fun K hK => ?_) (AllReady.cons rfl (fun K hK => ?_) AllReady.nil)
              · go_simp
                refine hK _ _ ?_
                clear hK K
                refine wpAny_ready (rs := [20]) (by kernel_rfl) (by simp) ?_
                refine AllReady.cons rfl (fun K hK => ?_) AllReady.nil
                go_simp
                go_wp2_with (go_at_call 14; refine (implGrdOf ac ar cc cr t HDr.out _ HS5.out.2.1.1 HS5.out.2.1.2).mono ?_; rintro e w6 ⟨vg, rfl, hO6, hb6⟩; obtain ⟨ag, cg, rfl⟩ := own_slice hO6; rw [hgl]; have HB6 := Hid.intro (k_trans HB5.out hb6); clear hO6 hb6)
                refine wpAny_ready (rs := [21]) (by kernel_rfl) (by simp) ?_
                refine AllReady.cons rfl (fun K hK => ?_) AllReady.nil
                go_simp
                refine hK _ _ ?_
                clear hK K
                refine wpAny_ready (rs := [22]) (by kernel_rfl) (by simp) ?_
                refine AllReady.cons rfl (fun K hK => ?_) AllReady.nil
                go_simp
                refine hK _ _ ?_
                clear hK K
                refine wpAny_ready (rs := [23]) (by kernel_rfl) (by simp) ?_
                refine AllReady.cons rfl (fun K hK => ?_) AllReady.nil
                go_simp
                refine hK _ _ ?_
                clear hK K
                refine wpAny_ready (rs := [24]) (by kernel_rfl) (by simp) ?_
                refine AllReady.cons rfl (fun K hK => ?_) AllReady.nil
                go_simp
                refine hK _ _ ?_
                clear hK K
                refine wpAny_done (by kernel_rfl) ?_ _
                go_wp2
                go_ret
                exact ⟨rfl, HB6.out⟩
              · go_simp
                go_wp2_with (go_at_call 14; refine (implGrdOf ac ar cc cr t HDr.out _ HS5.out.2.1.1 HS5.out.2.1.2).mono ?_; rintro e w6 ⟨vg, rfl, hO6, hb6⟩; obtain ⟨ag, cg, rfl⟩ := own_slice hO6; rw [hgl]; have HB6 := Hid.intro (k_trans HB5.out hb6); clear hO6 hb6)
                refine wpAny_ready (rs := [18, 21]) (by kernel_rfl) (by simp) ?_
                refine AllReady.cons rfl (fun K hK => ?_) (AllReady.cons rfl (fun K hK => ?_) AllReady.nil)
                · go_simp
                  refine hK _ _ ?_
                  clear hK K
                  refine wpAny_ready (rs := [21]) (by kernel_rfl) (by simp) ?_
                  refine AllReady.cons rfl (fun K hK => ?_) AllReady.nil
                  go_simp
                  refine hK _ _ ?_
                  clear hK K
                  refine wpAny_ready (rs := [22]) (by kernel_rfl) (by simp) ?_
                  refine AllReady.cons rfl (fun K hK => ?_) AllReady.nil
                  go_simp
                  refine hK _ _ ?_
                  clear hK K
                  refine wpAny_ready (rs := [23]) (by kernel_rfl) (by simp) ?_
                  refine AllReady.cons rfl (fun K hK => ?_) AllReady.nil
                  go_simp
                  refine hK _ _ ?_
                  clear hK K
                  refine wpAny_ready (rs := [24]) (by kernel_rfl) (by simp) ?_
                  refine AllReady.cons rfl (fun K hK => ?_) AllReady.nil
                  go_simp
                  refine hK _ _ ?_
                  clear hK K
                  refine wpAny_done (by kernel_rfl) ?_ _
                  go_wp2
                  go_ret
                  exact ⟨rfl, HB6.out⟩
                · go_simp
                  refine hK _ _ ?_
                  clear hK K
                  refine wpAny_ready (rs := [18]) (by kernel_rfl) (by simp) ?_
                  refine AllReady.cons rfl (fun K hK => ?_) AllReady.nil
                  go_simp
                  refine hK _ _ ?_
                  clear hK K
                  refine wpAny_ready (rs := [22]) (by kernel_rfl) (by simp) ?_
                  refine AllReady.cons rfl (fun K hK => ?_) AllReady.nil
                  go_simp
                  refine hK _ _ ?_
                  clear hK K
                  refine wpAny_ready (rs := [23]) (by kernel_rfl) (by simp) ?_
                  refine AllReady.cons rfl (fun K hK => ?_) AllReady.nil
                  go_simp
                  refine hK _ _ ?_
                  clear hK K
                  refine wpAny_ready (rs := [24]) (by kernel_rfl) (by simp) ?_
                  refine AllReady.cons rfl (fun K hK => ?_) AllReady.nil
                  go_simp
                  refine hK _ _ ?_
                  clear hK K
                  refine wpAny_done (by kernel_rfl) ?_ _
                  go_wp2
                  go_ret
                  exact ⟨rfl, HB6.out⟩
          · go_simp
            refine hK _ _ ?_
            clear hK K
            refine wpAny_ready (rs := [17, 20]) (by kernel_rfl) (by simp) ?_
            refine AllReady.cons rfl (fun K hK => ?_) (AllReady.cons rfl (fun K hK => ?_) AllReady.nil)
            · go_simp
              refine hK _ _ ?_
              clear hK K
              refine wpAny_ready (rs := [18, 20]) (by kernel_rfl) (by simp) ?_
              refine AllReady.cons rfl (fun K hK => ?_) (AllReady.cons rfl (fun K hK => ?_) AllReady.nil)
              · go_simp
                refine hK _ _ ?_
                clear hK K
                refine wpAny_ready (rs := [20]) (by kernel_rfl) (by simp) ?_
                refine AllReady.cons rfl (fun K hK => ?_) AllReady.nil
                go_simp
                go_wp2_with (go_at_call 14; refine (implGrdOf ac ar cc cr t HDr.out _ HS5.out.2.1.1 HS5.out.2.1.2).mono ?_; rintro e w6 ⟨vg, rfl, hO6, hb6⟩; obtain ⟨ag, cg, rfl⟩ := own_slice hO6; rw [hgl]; have HB6 := Hid.intro (k_trans HB5.out hb6); clear hO6 hb6)
                refine wpAny_ready (rs := [21]) (by kernel_rfl) (by simp) ?_
                refine AllReady.cons rfl (fun K hK => ?_) AllReady.nil
                go_simp
                refine hK _ _ ?_
                clear hK K
                refine wpAny_ready (rs := [22]) (by kernel_rfl) (by simp) ?_
                refine AllReady.cons rfl (fun K hK => ?_) AllReady.nil
                go_simp
                refine hK _ _ ?_
                clear hK K
                refine wpAny_ready (rs := [23]) (by kernel_rfl) (by simp) ?_
                refine AllReady.cons rfl (fun K hK => ?_) AllReady.nil
                go_simp
                refine hK _ _ ?_
                clear hK K
                refine wpAny_ready (rs := [24]) (by kernel_rfl) (by simp) ?_
                refine AllReady.cons rfl (fun K hK => ?_) AllReady.nil
                go_simp
                refine hK _ _ ?_
                clear hK K
                refine wpAny_done (by kernel_rfl) ?_ _
                go_wp2
                go_ret
                exact ⟨rfl, HB6.out⟩
              · go_simp
                go_wp2_with (go_at_call 14; refine (implGrdOf ac ar cc cr t HDr.out _ HS5.out.2.1.1 HS5.out.2.1.2).mono ?_; rintro e w6 ⟨vg, rfl, hO6, hb6⟩; obtain ⟨ag, cg, rfl⟩ := own_slice hO6; rw [hgl]; have HB6 := Hid.intro (k_trans HB5.out hb6); clear hO6 hb6)
                refine wpAny_ready (rs := [18, 21]) (by kernel_rfl) (by simp) ?_
                refine AllReady.cons rfl (fun K hK => ?_) (AllReady.cons rfl (fun K hK => ?_) AllReady.nil)
                · go_simp
                  refine hK _ _ ?_
                  clear hK K
                  refine wpAny_ready (rs := [21]) (by kernel_rfl) (by simp) ?_
                  refine AllReady.cons rfl (fun K hK => ?_) AllReady.nil
                  go_simp
                  refine hK _ _ ?_
                  clear hK K
                  refine wpAny_ready (rs := [22]) (by kernel_rfl) (by simp) ?_
                  refine AllReady.cons rfl (fun K hK => ?_) AllReady.nil
                  go_simp
                  refine hK _ _ ?_
                  clear hK K
                  refine wpAny_ready (rs := [23]) (by kernel_rfl) (by simp) ?_
                  refine AllReady.cons rfl (fun K hK => ?_) AllReady.nil
                  go_simp
                  refine hK _ _ ?_
                  clear hK K
                  refine wpAny_ready (rs := [24]) (by kernel_rfl) (by simp) ?_
                  refine AllReady.cons rfl (fun K hK => ?_) AllReady.nil
                  go_simp
                  refine hK _ _ ?_
                  clear hK K
                  refine wpAny_done (by kernel_rfl) ?_ _
                  go_wp2
                  go_ret
                  exact ⟨rfl, HB6.out⟩
                · go_simp
                  refine hK _ _ ?_
                  clear hK K
                  refine wpAny_ready (rs := [18]) (by kernel_rfl) (by simp) ?_
                  refine AllReady.cons rfl (fun K hK => ?_) AllReady.nil
                  go_simp
                  refine hK _ _ ?_
                  clear hK K
                  refine wpAny_ready (rs := [22]) (by kernel_rfl) (by simp) ?_
                  refine AllReady.cons rfl (fun K hK => ?_) AllReady.nil
                  go_simp
                  refine hK _ _ ?_
                  clear hK K
                  refine wpAny_ready (rs := [23]) (by kernel_rfl) (by simp) ?_
                  refine AllReady.cons rfl (fun K hK => ?_) AllReady.nil
                  go_simp
                  refine hK _ _ ?_
                  clear hK K
                  refine wpAny_ready (rs := [24]) (by kernel_rfl) (by simp) ?_
                  refine AllReady.cons rfl (fun K hK => ?_) AllReady.nil
                  go_simp
                  refine hK _ _ ?_
                  clear hK K
                  refine wpAny_done (by kernel_rfl) ?_ _
                  go_wp2
                  go_ret
                  exact ⟨rfl, HB6.out⟩
            · go_simp
              go_wp2_with (go_at_call 14; refine (implGrdOf ac ar cc cr t HDr.out _ HS5.out.2.1.1 HS5.out.2.1.2).mono ?_; rintro e w6 ⟨vg, rfl, hO6, hb6⟩; obtain ⟨ag, cg, rfl⟩ := own_slice hO6; rw [hgl]; have HB6 := Hid.intro (k_trans HB5.out hb6); clear hO6 hb6)
              refine wpAny_ready (rs := [17, 21]) (by kernel_rfl) (by simp) ?_
              refine AllReady.cons rfl (fun K hK => ?_) (AllReady.cons rfl (fun K hK => ?_) AllReady.nil)
              · go_simp
                refine hK _ _ ?_
                clear hK K
                refine wpAny_ready (rs := [18, 21]) (by kernel_rfl) (by simp) ?_
                refine AllReady.cons rfl (fun K hK => ?_) (AllReady.cons rfl (fun K hK => ?_) AllReady.nil)
                · go_simp
                  refine hK _ _ ?_
                  clear hK K
                  refine wpAny_ready (rs := [21]) (by kernel_rfl) (by simp) ?_
                  refine AllReady.cons rfl (fun K hK => ?_) AllReady.nil
                  go_simp
                  refine hK _ _ ?_
                  clear hK K
                  refine wpAny_ready (rs := [22]) (by kernel_rfl) (by simp) ?_
                  refine AllReady.cons rfl (fun K hK => ?_) AllReady.nil
                  go_simp
                  refine hK _ _ ?_
                  clear hK K
                  refine wpAny_ready (rs := [23]) (by kernel_rfl) (by simp) ?_
                  refine AllReady.cons rfl (fun K hK => ?_) AllReady.nil
                  go_simp
                  refine hK _ _ ?_
                  clear hK K
                  refine wpAny_ready (rs := [24]) (by kernel_rfl) (by simp) ?_
                  refine AllReady.cons rfl (fun K hK => ?_) AllReady.nil
                  go_simp
                  refine hK _ _ ?_
                  clear hK K
                  refine wpAny_done (by kernel_rfl) ?_ _
                  go_wp2
                  go_ret
                  exact ⟨rfl, HB6.out⟩
                · go_simp
                  refine hK _ _ ?_
                  clear hK K
                  refine wpAny_ready (rs := [18]) (by kernel_rfl) (by simp) ?_
                  refine AllReady.cons rfl (fun K hK => ?_) AllReady.nil
                  go_simp
                  refine hK _ _ ?_
                  clear hK K
                  refine wpAny_ready (rs := [22]) (by kernel_rfl) (by simp) ?_
                  refine AllReady.cons rfl (fun K hK => ?_) AllReady.nil
                  go_simp
                  refine hK _ _ ?_
                  clear hK K
                  refine wpAny_ready (rs := [23]) (by kernel_rfl) (by simp) ?_
                  refine AllReady.cons rfl (fun K hK => ?_) AllReady.nil
                  go_simp
                  refine hK _ _ ?_
                  clear hK K
                  refine wpAny_ready (rs := [24]) (by kernel_rfl) (by simp) ?_
                  refine AllReady.cons rfl (fun K hK => ?_) AllReady.nil
                  go_simp
                  refine hK _ _ ?_
                  clear hK K
                  refine wpAny_done (by kernel_rfl) ?_ _
                  go_wp2
                  go_ret
                  exact ⟨rfl, HB6.out⟩
              · go_simp
                refine hK _ _ ?_
                clear hK K
                refine wpAny_ready (rs := [17]) (by kernel_rfl) (by simp) ?_
                refine AllReady.cons rfl (fun K hK => ?_) AllReady.nil
                go_simp
                refine hK _ _ ?_
                clear hK K
                refine wpAny_ready (rs := [18]) (by kernel_rfl) (by simp) ?_
                refine AllReady.cons rfl (fun K hK => ?_) AllReady.nil
                go_simp
                refine hK _ _ ?_
                clear hK K
                refine wpAny_ready (rs := [22]) (by kernel_rfl) (by simp) ?_
                refine AllReady.cons rfl (fun K hK => ?_) AllReady.nil
                go_simp
                refine hK _ _ ?_
                clear hK K
                refine wpAny_ready (rs := [23]) (by kernel_rfl) (by simp) ?_
                refine AllReady.cons rfl (fun K hK => ?_) AllReady.nil
                go_simp
                refine hK _ _ ?_
                clear hK K
                refine wpAny_ready (rs := [24]) (by kernel_rfl) (by simp) ?_
                refine AllReady.cons rfl (fun K hK => ?_) AllReady.nil
                go_simp
                refine hK _ _ ?_
                clear hK K
                refine wpAny_done (by kernel_rfl) ?_ _
                go_wp2
                go_ret
                exact ⟨rfl, HB6.out⟩

theorem lawWidSum (a : Option Addr) (len cap : Nat) (w : World) (h : IsCode w a len cap) :
    Calls Tryz.prog 4 #[.slice a len cap] w fun e w' => e = .returned (.bool true) ∧ Below w.heap.size w w' := by
  by_cases hl : len ≤ 1048576
  · exact lawWidSum_walk a len cap hl w h
  · have hl' : (1048576 : Int) < (len : Int) := by omega
    clear h
    go_enter Tryz.func4, Tryz.ntmps4
    go_wp2
    go_ret
    exact ⟨rfl, Below.refl _ _⟩
end Go.Proofs.YtfkkhfiiokhnaaeGreat
