/-
  PROVED HERE: the law FnWidParts returns true at every code that lies in memory.
-/
import Derived.Test.YtfkkhfiiokhnaafGreatB43
import Derived.Test.YtfkkhfiiokhnaafGreatB51
import Derived.Test.YtfkkhfiiokhnaafGreatB36
import Derived.Test.YtfkkhfiiokhnaafGreatB53
import Derived.Test.YtfkkhfiiokhnaafGreatB26
namespace Go.Proofs.YtfkkhfiiokhnaafGreat
open Go.RowKit Go.BigFrame

/-- the table in its box, and two lists -/
structure SP (w : World) (tb : Nat) (ac ar al ae : Option Addr) (cc cr cl ce : Nat) (t : T) (WL LL : List Int) (W : World) : Prop where
  s : St w tb ac ar cc cr t W
  i : IntsAt W (.slice al WL.length cl) WL
  e : IntsAt W (.slice ae LL.length ce) LL
theorem SP.kept {w W W' : World} {tb : Nat} {ac ar al ae : Option Addr} {cc cr cl ce : Nat} {t : T} {WL LL : List Int} (h : SP w tb ac ar al ae cc cr cl ce t WL LL W) (hb : Below W.heap.size W W') : SP w tb ac ar al ae cc cr cl ce t WL LL W' := ⟨h.s.kept hb, h.i.kept hb, h.e.kept hb⟩
theorem part_num {x n : Int} (hx : 0 ≤ x ∧ x ≤ 300) (hn : 0 ≤ n ∧ n ≤ 100) : 0 ≤ x * n ∧ x * n ≤ 30000 ∧ Int.tdiv (x * n) 100 = x * n / 100 := by
  have h0 : 0 ≤ x * n := Int.mul_nonneg hx.1 hn.1
  exact ⟨h0, Int.le_trans (Int.mul_le_mul hx.2 hn.2 hn.1 (by omega)) (by omega), Int.tdiv_eq_ediv_of_nonneg h0⟩
set_option maxRecDepth 100000 in
set_option maxHeartbeats 4000000 in
theorem lawWidParts_walk (A : Option Addr) (len cap : Nat) (hlen : len ≤ 1048576) (w : World) (h : IsCode w A len cap) :
    Calls Tryz.prog 3 #[.slice A len cap] w fun e w' => e = .returned (.bool true) ∧ Below w.heap.size w w' := by
  have hl : ¬ (1048576 : Int) < (len : Int) := by omega
  have hmx : Tryz.prog.follows .mixedOrders = true := by kernel_rfl
  have hf0 := field0
  have hf1 := field1
  have HD := Hid.intro h
  clear h
  go_enter Tryz.func3, Tryz.ntmps3
  go_wp2_with fail
  refine (drawWidCols_any _ _ _ _ HD.out).mono ?_
  rintro e w1 ⟨ac, ar, cc, cr, t, x, rfl, hD, hxb, hC1, hW1, hb1⟩
  have HS : Hid (St w w1.heap.size ac ar cc cr t (w1.alloc (.cells #[.slice ac t.cols.length cc, .int .i64 t.head, .int .i64 t.foot, .slice ar t.rows.length cr, .int .i64 t.gap] 26))) := ⟨hb1.alloc hb1.size _, TA.kept ⟨hC1, hW1⟩ (k_alloc (Below.refl _ _) _), newestB _ _⟩
  have HDr := Hid.intro hD
  have HWi := Hid.intro (fun W (h : TA W w.heap.size ac ar cc cr t) => implWidCols ac ar cc cr t hD x W h.1 h.2)
  have HWs := Hid.intro (fun W (h : TA W w.heap.size ac ar cc cr t) => specWidCols ac ar cc cr t hD x W h.1 h.2)
  have HLi := Hid.intro (fun W (h : TA W w.heap.size ac ar cc cr t) => implColLeast ac ar cc cr t hD W h.1 h.2)
  have HCf := Hid.intro (fun W (h : TA W w.heap.size ac ar cc cr t) => implColFloor ac ar cc cr t hD W h.1 h.2)
  have HSd := Hid.intro (fun (k : Nat) W (h : TA W w.heap.size ac ar cc cr t) => implColSaid ac ar cc cr t (k : Int) W h.1 h.2)
  have HOs := Hid.intro (fun W (h : TA W w.heap.size ac ar cc cr t) => specTblOk ac ar cc cr t W h.1 h.2)
  clear hC1 hW1 hb1 hD HD
  go_upto_region 4 with fail
  generalize w1.alloc (.cells #[.slice ac t.cols.length cc, .int .i64 t.head, .int .i64 t.foot, .slice ar t.rows.length cr, .int .i64 t.gap] 26) = W1 at HS ⊢
  generalize w1.heap.size = tb at HS ⊢
  generalize hWL : widT t x = WL at HWi HWs
  have HWL := Hid.intro hWL
  clear hWL
  obtain ⟨z0, z1, z2, z3, z4⟩ := HS.out.at
  go_wp2_with fail
  refine (HWi.out _ HS.out.2.1).mono ?_
  rintro e w2 ⟨v2, rfl, hR2, hb2⟩
  obtain ⟨al, cl, rfl⟩ := hR2.form
  have HI := Hid.intro hR2.at
  replace HS := Hid.intro (HS.out.kept hb2)
  clear hR2 hb2 z0 z1 z2 z3 z4 HWi
  obtain ⟨z0, z1, z2, z3, z4⟩ := HS.out.at
  go_wp2_with fail
  refine (HWs.out _ HS.out.2.1).mono ?_
  rintro e w4 ⟨v4, rfl, hR4, hb4⟩
  obtain ⟨a4, c4, rfl⟩ := hR4.form
  have HJ := Hid.intro hR4.at
  replace HI := Hid.intro (HI.out.kept hb4)
  replace HS := Hid.intro (HS.out.kept hb4)
  clear hR4 hb4 z0 z1 z2 z3 z4 HWs
  go_wp2_with fail
  refine (pwInts_any _ _ WL _ HI.out HJ.out).mono ?_
  rintro e w5 ⟨rfl, n5, e5⟩
  have HI5 : Hid (IntsAt w5 (.slice al WL.length cl) WL) := by rw [e5]; exact HI.out.kept (k_drewN (Below.refl _ _) n5)
  have HS5 : Hid (St w tb ac ar cc cr t w5) := by rw [e5]; exact HS.out.kept (k_drewN (Below.refl _ _) n5)
  clear e5 HI HJ HS
  obtain ⟨z0, z1, z2, z3, z4⟩ := HS5.out.at
  by_cases hall : (tblB t && inB x 0 300) = true
  case neg => as_aux_lemma =>
    have hall' : (tblB t && inB x 0 300) = false := Bool.eq_false_iff.2 hall
    obtain rfl : WL = [] := by rw [← HWL.out]; unfold widT; rw [hall']; rfl
    have KO := Hid.intro (HOs.out w5 HS5.out.2.1)
    clear HLi HCf HSd HOs HWL hall HDr
    cases htk : tblB t with
    | false =>
      rw [htk] at KO
      clear htk hall'
      go_wp2_with fail
      refine KO.out.mono ?_
      rintro e w7 ⟨rfl, hb7⟩
      have HK := Hid.intro (HS5.out.kept hb7).1
      clear hb7 KO z0 z1 z2 z3 z4
      go_wp2_with fail
      refine (pwOk_any _).mono ?_
      rintro e w8 ⟨rfl, rfl⟩
      go_wp2
      go_ret
      exact ⟨rfl, HK.out⟩
    | true =>
      rw [htk] at KO hall'
      have hx : x < 0 ∨ 300 < x := by
        have h2 : inB x 0 300 = false := by simpa using hall'
        simp only [inB, decide_eq_false_iff_not] at h2
        omega
      clear htk hall'
      rcases hx with hx | hx
      case' inr => have hx0 : ¬ x < 0 := by omega
      all_goals
        go_wp2_with fail
        refine KO.out.mono ?_
        rintro e w7 ⟨rfl, hb7⟩
        have HK := Hid.intro (HS5.out.kept hb7).1
        clear hb7 KO z0 z1 z2 z3 z4
        go_wp2_with fail
        refine (pwOk_any _).mono ?_
        rintro e w8 ⟨rfl, rfl⟩
        go_wp2
        go_ret
        exact ⟨rfl, HK.out⟩
  case pos => as_aux_lemma =>
    obtain ⟨htk, hin⟩ := Bool.and_eq_true_iff.1 hall
    have hx : 0 ≤ x ∧ x ≤ 300 := by simpa [inB] using hin
    obtain ⟨f0, f1, _⟩ := acr_wid HDr.out htk hx
    obtain ⟨g1, g2, g3, g4, g5, _⟩ := acr_least HDr.out htk
    have HLn : Hid (WL.length = colN t) := by rw [Hid, ← HWL.out, f0]; exact f1
    have hM : WL.length ≤ 88 := by rw [HLn.out]; exact g2
    have hM1 : 1 ≤ WL.length := by rw [HLn.out]; exact g1
    have hLL : (leastL t).length = WL.length := by rw [leastL_len, HLn.out]
    have HUp := Hid.intro (leastL_up HDr.out)
    have HUw : Hid (UpB WL 5000) := by rw [Hid, ← HWL.out, f0]; exact wid_up HDr.out htk hx
    have HKd : Hid (∀ k : Nat, k < WL.length → ((sd t.cols (k : Int)).1 = 0) ∨ ((sd t.cols (k : Int)).1 = 1 ∧ 0 ≤ (sd t.cols (k : Int)).2 ∧ (sd t.cols (k : Int)).2 ≤ 60) ∨ ((sd t.cols (k : Int)).1 = 2 ∧ 1 ≤ (sd t.cols (k : Int)).2 ∧ (sd t.cols (k : Int)).2 ≤ 100)) := fun k hk => sd_kind (t := t) (k := k) (by rw [← HLn.out]; exact hk)
    have HPg : Hid (∀ k : Nat, k < WL.length → (want1 t x (leastL t)).sum ≤ x - acrV (leastL t) t.gap → (sd t.cols (k : Int)).1 = 2 → x * (sd t.cols (k : Int)).2 / 100 ≤ WL.getD k 0) := fun k hk hn hp => by
      rw [← HWL.out, f0]
      exact parts_get HDr.out htk hx (by unfold restV; rw [← g3]; exact hn) (by rw [← HLn.out]; exact hk) hp
    have HWs : Hid (∀ k : Nat, k < WL.length → sumTo (want1 t x (leastL t)) (k + 1) = sumTo (want1 t x (leastL t)) k + (if (sd t.cols (k : Int)).1 = 2 then max 0 (x * (sd t.cols (k : Int)).2 / 100 - (leastL t).getD k 0) else 0)) := fun k hk => want_step (by rw [hLL]; exact hk)
    have HWe : Hid (sumTo (want1 t x (leastL t)) WL.length = (want1 t x (leastL t)).sum) := by
      have := sumTo_all (want1 t x (leastL t))
      rw [want1_len, hLL] at this
      exact this
    have HSd2 : Hid (∀ (k : Nat) W, TA W w.heap.size ac ar cc cr t → Calls Tryz.prog 14 #[.agg #[.slice ac t.cols.length cc, .int .i64 t.head, .int .i64 t.foot, .slice ar t.rows.length cr, .int .i64 t.gap], .int .i64 (k : Int)] W fun e w' => e = .returned (.agg #[.int .i64 (sd t.cols (k : Int)).1, .int .i64 (sd t.cols (k : Int)).2]) ∧ Below W.heap.size W w') := fun k W h => by have q := HSd.out k W h; unfold sdT at q; rw [if_pos htk] at q; exact q
    have hwb : ∀ k : Nat, k ≤ WL.length → 0 ≤ sumTo (want1 t x (leastL t)) k ∧ sumTo (want1 t x (leastL t)) k ≤ k * 1000 := fun k => by
      induction k with
      | zero => intro _; simp [sumTo]
      | succ k ih =>
        intro hk
        have h1 := ih (by omega)
        have h2 := HWs.out k (by omega)
        have h3 := HKd.out k (by omega)
        have h4 := HUp.out k (by rw [hLL]; omega)
        rw [h2]
        split
        · rename_i h5
          have h6 := part_num hx (n := (sd t.cols (k : Int)).2) (by omega)
          omega
        · omega
    have HWb := Hid.intro hwb
    clear hwb f0 f1 g1 g2 g3 HSd HOs hall htk hin HWL HDr HLn
    generalize want1 t x (leastL t) = WN at HPg HWs HWe HWb
    generalize acrV (leastL t) t.gap = fl at HCf HPg g4 g5
    have hne0 : ((WL.length : Int) == 0) = false := beq_eq_false_iff_ne.2 (by omega)
    go_wp2_with fail
    refine (HLi.out _ HS5.out.2.1).mono ?_
    rintro e w6 ⟨v6, rfl, hR6, hb6⟩
    obtain ⟨ae, ce, rfl⟩ := hR6.form
    have HS6 : Hid (SP w tb ac ar al ae cc cr cl ce t WL (leastL t) w6) := ⟨HS5.out.kept hb6, HI5.out.kept hb6, hR6.at⟩
    clear hR6 hb6 z0 z1 z2 z3 z4 HI5 HS5 HLi
    generalize leastL t = LL at HS6 HUp hLL HWs ⊢
    go_wp2_with fail
    go_loopw [7, 8] (fun s i W => ∃ k : Nat, k ≤ WL.length ∧ i = .int .i64 k ∧ s = .int .i64 (sumTo WN k) ∧ Hid (SP w tb ac ar al ae cc cr cl ce t WL LL W)) (fun _ i _ => WL.length - (intOf i).toNat)
    case atStart => exact ⟨0, Nat.zero_le _, rfl, by simp [sumTo], HS6⟩
    case round =>
      obtain ⟨k, hk, rfl, rfl, HSr⟩ := hrel
      by_cases hlt : k < WL.length
      case pos => as_aux_lemma =>
        have KS := Hid.intro (HSd2.out k)
        have hst := HWs.out k hlt
        have hkd := HKd.out k hlt
        have hsb := HWb.out k hk
        have hup := HUp.out k (by omega)
        obtain ⟨b, off, cap', e', hc1, hc2, hbl, hy⟩ := HSr.out.e.get (i := k) (by omega)
        simp only [Value.slice.injEq, true_and] at e'
        obtain ⟨rfl, rfl⟩ := e'
        unfold maxLen at hc2
        generalize sd t.cols (k : Int) = p at KS hst hkd
        generalize LL.getD k 0 = y at hst hup hy
        obtain ⟨z0, z1, z2, z3, z4⟩ := HSr.out.s.at
        have HC := Hid.intro (And.intro hbl hy)
        have HST := Hid.intro hst
        clear hst hy hbl
        go_wp2_with fail
        refine (KS.out _ HSr.out.s.2.1).mono ?_
        rintro e w7 ⟨rfl, hb7⟩
        have HS7 := Hid.intro (HSr.out.kept hb7)
        have hy := (hb7.cell (p := ⟨b, _, none⟩) HC.out.1).trans HC.out.2
        have hbl : b < w7.heap.size := Nat.lt_of_lt_of_le HC.out.1 hb7.size
        clear hb7 z0 z1 z2 z3 z4 HC HSr
        by_cases hp : p.1 = 2
        · have hpe : (p.1 == 2) = true := beq_iff_eq.2 hp
          obtain ⟨q0, q1, q2⟩ := part_num hx (n := p.2) (by omega)
          have HN : Hid (sumTo WN (k + 1) = sumTo WN k + max 0 (x * p.2 / 100 - y)) := by rw [Hid, HST.out, if_pos hp]
          clear hp hkd HST
          have hne := bw_some w7
          have htb := (Array.getElem?_eq_some_iff.1 HS7.out.s.2.2).1
          have m0 := bw_cell (a := ⟨tb, 0, none⟩) htb (cellB (p := 0) HS7.out.s.2.2)
          have m1 := bw_cell (a := ⟨tb, 1, none⟩) htb (cellB (p := 1) HS7.out.s.2.2)
          have m2 := bw_cell (a := ⟨tb, 2, none⟩) htb (cellB (p := 2) HS7.out.s.2.2)
          have m3 := bw_cell (a := ⟨tb, 3, none⟩) htb (cellB (p := 3) HS7.out.s.2.2)
          have m4 := bw_cell (a := ⟨tb, 4, none⟩) htb (cellB (p := 4) HS7.out.s.2.2)
          have my := bw_cell hbl hy
          have k1 := Hid.intro (fun (p1 : BW w7) => bw_of (KS.out p1.u (HS7.out.kept p1.h).s.2.1))
          go_upto_region 15 with fail
          clear hy
          refine wp_region_quiet_below hmx (by kernel_rfl) ?_
          repeat (go_big_quiet_step (first | (go_at_call 14; refine k1.out _)))
          refine wpQuiet_nil ?_
          intro W5 hw'
          obtain ⟨⟨Wx, hW5⟩, hw''⟩ := hw'
          subst hw''
          have HS8 := Hid.intro (HS7.out.kept hW5)
          clear k1 m0 m1 m2 m3 m4 my hne hW5 HS7
          go_wp2
          go_roundw
          case rel => exact ⟨k + 1, by omega, by go_num, by rw [HN.out], HS8⟩
          case measure => simp [intOf]; omega
        · have hpe : (p.1 == 2) = false := beq_eq_false_iff_ne.2 hp
          have HN : Hid (sumTo WN (k + 1) = sumTo WN k) := by rw [Hid, HST.out, if_neg hp, Int.add_zero]
          clear hp hkd HST
          go_wp2
          go_roundw
          case rel => exact ⟨k + 1, by omega, by go_num, by rw [HN.out], HS7⟩
          case measure => simp [intOf]; omega
      case neg => as_aux_lemma =>
        obtain rfl : k = WL.length := by omega
        rw [HWe.out]
        have hnb := HWb.out WL.length (Nat.le_refl _)
        rw [HWe.out] at hnb
        clear HWs HWe HWb
        generalize WN.sum = nd at HPg hnb ⊢
        go_wp2_with fail
        go_loopw [9] (fun i W => ∃ j : Nat, j ≤ WL.length ∧ i = .int .i64 j ∧ Hid (SP w tb ac ar al ae cc cr cl ce t WL LL W)) (fun i _ => WL.length - (intOf i).toNat)
        case atStart => exact ⟨0, Nat.zero_le _, rfl, HSr⟩
        case round =>
          obtain ⟨j, hj, rfl, HSj⟩ := hrel
          rename World => Wj
          by_cases hlj : j < WL.length
          case pos => as_aux_lemma =>
            have KS := Hid.intro (HSd2.out j)
            have hkd := HKd.out j hlj
            have hup := HUw.out j hlj
            have hpg := HPg.out j hlj
            obtain ⟨b, off, cap', e', hc1, hc2, hbl, hy⟩ := HSj.out.i.get (i := j) hlj
            simp only [Value.slice.injEq, true_and] at e'
            obtain ⟨rfl, rfl⟩ := e'
            unfold maxLen at hc2
            generalize sd t.cols (j : Int) = p at KS hkd hpg
            generalize WL.getD j 0 = y at hup hy hpg
            have HPG := Hid.intro hpg
            obtain ⟨z0, z1, z2, z3, z4⟩ := HSj.out.s.at
            have HC := Hid.intro (And.intro hbl hy)
            clear hy hbl hpg
            go_wp2_with fail
            refine (KS.out _ HSj.out.s.2.1).mono ?_
            rintro e w7 ⟨rfl, hb7⟩
            have HS8 := Hid.intro ((HSj.out.kept hb7).kept (k_alloc (Below.refl _ _) (.cells #[.int .i64 p.1, .int .i64 p.2] 36)))
            have HX8 : Hid ((w7.alloc (.cells #[.int .i64 p.1, .int .i64 p.2] 36)).heap[w7.heap.size]? = some (.cells #[.int .i64 p.1, .int .i64 p.2] 36)) := newestB _ _
            have hy := ((k_alloc hb7 (.cells #[.int .i64 p.1, .int .i64 p.2] 36)).cell (p := ⟨b, _, none⟩) HC.out.1).trans HC.out.2
            have hbl := Nat.lt_of_lt_of_le HC.out.1 (k_alloc hb7 (.cells #[.int .i64 p.1, .int .i64 p.2] 36)).size
            clear hb7 z0 z1 z2 z3 z4 HC HSj KS
            go_upto_region 20 with fail
            generalize w7.alloc (.cells #[.int .i64 p.1, .int .i64 p.2] 36) = W8 at HS8 HX8 hy hbl ⊢
            generalize w7.heap.size = pb at HX8 ⊢
            have hne := bw_some W8
            have htb := (Array.getElem?_eq_some_iff.1 HS8.out.s.2.2).1
            have hpb := (Array.getElem?_eq_some_iff.1 HX8.out).1
            have m0 := bw_cell (a := ⟨tb, 0, none⟩) htb (cellB (p := 0) HS8.out.s.2.2)
            have m1 := bw_cell (a := ⟨tb, 1, none⟩) htb (cellB (p := 1) HS8.out.s.2.2)
            have m2 := bw_cell (a := ⟨tb, 2, none⟩) htb (cellB (p := 2) HS8.out.s.2.2)
            have m3 := bw_cell (a := ⟨tb, 3, none⟩) htb (cellB (p := 3) HS8.out.s.2.2)
            have m4 := bw_cell (a := ⟨tb, 4, none⟩) htb (cellB (p := 4) HS8.out.s.2.2)
            have b0 := bw_cell (a := ⟨pb, 0, none⟩) hpb (cellB (p := 0) HX8.out)
            have b1 := bw_cell (a := ⟨pb, 1, none⟩) hpb (cellB (p := 1) HX8.out)
            have my := bw_cell hbl hy
            have k1 := Hid.intro (fun (p1 : BW W8) => bw_of (HCf.out p1.u (HS8.out.kept p1.h).s.2.1))
            clear hy
            by_cases hp : p.1 = 2
            · have hpe : (p.1 == 2) = true := beq_iff_eq.2 hp
              obtain ⟨q0, q1, q2⟩ := part_num hx (n := p.2) (by omega)
              by_cases hnd : nd ≤ x - fl
              · have hlt : ¬ y < x * p.2 / 100 := Int.not_lt.2 (HPG.out hnd hp)
                have hltd : decide (y < x * p.2 / 100) = false := decide_eq_false hlt
                have hndd : decide (nd ≤ x - fl) = true := decide_eq_true hnd
                clear hp hkd HPG
                refine wp_region_quiet_below hmx (by kernel_rfl) ?_
                repeat (go_big_quiet_step (first | (go_at_call 15; refine k1.out _)))
                refine wpQuiet_nil ?_
                intro W5 hw'
                obtain ⟨⟨Wx, hW5⟩, hw''⟩ := hw'
                subst hw''
                have HS9 := Hid.intro (HS8.out.kept hW5)
                clear k1 m0 m1 m2 m3 m4 my b0 b1 hne hW5 HS8
                go_wp2
                go_roundw
                case rel => exact ⟨j + 1, by omega, by go_num, HS9⟩
                case measure => simp [intOf]; omega
              · have hndd : decide (nd ≤ x - fl) = false := decide_eq_false hnd
                clear hp hkd HPG
                refine wp_region_quiet_below hmx (by kernel_rfl) ?_
                repeat (go_big_quiet_step (first | (go_at_call 15; refine k1.out _)))
                refine wpQuiet_nil ?_
                intro W5 hw'
                obtain ⟨⟨Wx, hW5⟩, hw''⟩ := hw'
                subst hw''
                have HS9 := Hid.intro (HS8.out.kept hW5)
                clear k1 m0 m1 m2 m3 m4 my b0 b1 hne hW5 HS8
                go_wp2
                go_roundw
                case rel => exact ⟨j + 1, by omega, by go_num, HS9⟩
                case measure => simp [intOf]; omega
            · have hpe : (p.1 == 2) = false := beq_eq_false_iff_ne.2 hp
              clear hp hkd HPG
              refine wp_region_quiet_below hmx (by kernel_rfl) ?_
              repeat (go_big_quiet_step (first | (go_at_call 15; refine k1.out _)))
              refine wpQuiet_nil ?_
              intro W5 hw'
              obtain ⟨⟨Wx, hW5⟩, hw''⟩ := hw'
              subst hw''
              have HS9 := Hid.intro (HS8.out.kept hW5)
              clear k1 m0 m1 m2 m3 m4 my b0 b1 hne hW5 HS8
              go_wp2
              go_roundw
              case rel => exact ⟨j + 1, by omega, by go_num, HS9⟩
              case measure => simp [intOf]; omega
          case neg => as_aux_lemma =>
            obtain rfl : j = WL.length := by omega
            go_wp2
            go_ret
            exact ⟨rfl, HSj.out.s.1⟩

theorem lawWidParts (a : Option Addr) (len cap : Nat) (w : World) (h : IsCode w a len cap) :
    Calls Tryz.prog 3 #[.slice a len cap] w fun e w' => e = .returned (.bool true) ∧ Below w.heap.size w w' := by
  by_cases hl : len ≤ 1048576
  · exact lawWidParts_walk a len cap hl w h
  · have hl' : (1048576 : Int) < (len : Int) := by omega
    clear h
    go_enter Tryz.func3, Tryz.ntmps3
    go_wp2
    go_ret
    exact ⟨rfl, Below.refl _ _⟩
end Go.Proofs.YtfkkhfiiokhnaafGreat
