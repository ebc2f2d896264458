/-
  PROVED HERE: the law FnColLeast returns true at every code that lies in memory.
-/
import Derived.Test.YtkppaokkopfkladB38
import Derived.Test.YtkppaokkopfkladB41
import Derived.Test.YtkppaokkopfkladB35
namespace Go.Proofs.Ytkppaokkopfklad
open Go.RowKit Go.BigFrame

theorem sdT_ok {t : T} (h : tblB t = true) (q : Int) : sdT t q = sd t.cols q := by unfold sdT; rw [if_pos h]
set_option maxRecDepth 100000 in
set_option maxHeartbeats 1000000 in
theorem lawColLeast_walk (A : Option Addr) (len cap : Nat) (hlen : len ≤ 1048576) (w : World) (h : IsCode w A len cap) :
    Calls Try.prog 7 #[.slice A len cap] w fun e w' => e = .returned (.bool true) ∧ Below w.heap.size w w' := by
  have hl : ¬ (1048576 : Int) < (len : Int) := by omega
  have hmx : Try.prog.follows .mixedOrders = true := by kernel_rfl
  have HD := Hid.intro h
  clear h
  go_enter Try.func7, Try.ntmps7
  go_wp2_with fail
  refine (drawColLeast_any _ _ _ _ HD.out).mono ?_
  rintro e w1 ⟨ac, ar, cc, cr, t, rfl, hD, hC1, hW1, hb1⟩
  have HS : Hid (St w w1.heap.size ac ar cc cr t (w1.alloc (.cells #[.slice ac t.cols.length cc, .int .i64 t.head, .int .i64 t.foot, .slice ar t.rows.length cr, .int .i64 t.gap] 40))) := ⟨hb1.alloc hb1.size _, TA.kept ⟨hC1, hW1⟩ (k_alloc (Below.refl _ _) _), newestB _ _⟩
  have HDr := Hid.intro hD
  have HzW : Hid (w.heap.size ≤ w1.heap.size) := hb1.size
  obtain ⟨h40, C, hgc, hC88, hcel⟩ := cel_of hD
  have HCel := Hid.intro hcel
  have HGC := Hid.intro hgc
  have hlL : (leastL t).length = C := by rw [leastL_len, colN_of hgc]
  have HUp := Hid.intro (leastL_up hD)
  have HHas := Hid.intro (fun k hk => least_has hD (k := k) hk)
  have HGk := Hid.intro (gOf_gok hD)
  clear hC1 hW1 hb1 hD HD hcel hgc
  go_upto_region 4 with fail
  generalize w1.alloc (.cells #[.slice ac t.cols.length cc, .int .i64 t.head, .int .i64 t.foot, .slice ar t.rows.length cr, .int .i64 t.gap] 40) = W1 at HS ⊢
  generalize w1.heap.size = tb at HS HzW ⊢
  obtain ⟨z0, z1, z2, z3, z4⟩ := HS.out.at
  have htb := (Array.getElem?_eq_some_iff.1 HS.out.2.2).1
  go_wp2_with fail
  refine (implColLeast ac ar cc cr t HDr.out _ HS.out.2.1.1 HS.out.2.1.2).mono ?_
  rintro e w2 ⟨v2, rfl, hR2, hb2⟩
  obtain ⟨al, cl, rfl⟩ := hR2.form
  rw [hlL] at hR2 ⊢
  have HI2 := Hid.intro hR2.at
  have HS2 := Hid.intro (HS.out.kept hb2)
  clear hR2 hb2 HS z0 z1 z2 z3 z4 htb
  obtain ⟨z0, z1, z2, z3, z4⟩ := HS2.out.at
  have htb := (Array.getElem?_eq_some_iff.1 HS2.out.2.2).1
  go_wp2_with fail
  refine (specColLeast ac ar cc cr t HDr.out _ HS2.out.2.1.1 HS2.out.2.1.2).mono ?_
  rintro e w3 ⟨v3, rfl, hR3, hb3⟩
  obtain ⟨a3, c3, rfl⟩ := hR3.form
  rw [hlL] at hR3 ⊢
  have HI3 := Hid.intro (HI2.out.kept hb3)
  have HJ3 := Hid.intro hR3.at
  have HS3 := Hid.intro (HS2.out.kept hb3)
  clear hR3 hb3 HS2 HI2 z0 z1 z2 z3 z4 htb
  go_wp2_with fail
  refine (pwInts_any _ _ (leastL t) _ HI3.out HJ3.out).mono ?_
  rintro e w4 ⟨rfl, n4, e4⟩
  have HI4 : Hid (IntsAt w4 (.slice al C cl) (leastL t)) := by rw [e4]; exact HI3.out.kept (k_drewN (Below.refl _ _) n4)
  have HS4 : Hid (St w tb ac ar cc cr t w4) := by rw [e4]; exact HS3.out.kept (k_drewN (Below.refl _ _) n4)
  clear e4 HI3 HJ3 HS3
  obtain ⟨z0, z1, z2, z3, z4⟩ := HS4.out.at
  have htb := (Array.getElem?_eq_some_iff.1 HS4.out.2.2).1
  have KO := Hid.intro (specTblOk ac ar cc cr t w4 HS4.out.2.1.1 HS4.out.2.1.2)
  cases htk : tblB t with
  | false =>
    rw [htk] at KO
    obtain rfl : C = 0 := by rw [← hlL, leastL_no htk]; rfl
    clear htk
    go_wp2_with fail
    refine KO.out.mono ?_
    rintro e w5 ⟨rfl, hb5⟩
    have HK5 := Hid.intro (HS4.out.kept hb5).1
    clear hb5 KO z0 z1 z2 z3 z4
    go_wp2_with fail
    refine (pwOk_any _).mono ?_
    rintro e w6 ⟨rfl, rfl⟩
    go_wp2
    go_ret
    exact ⟨rfl, HK5.out⟩
  | true =>
    rw [htk] at KO
    have HSd := Hid.intro (fun q => sdT_ok htk q)
    clear htk
    go_wp2_with fail
    refine KO.out.mono ?_
    rintro e w5 ⟨rfl, hb5⟩
    have HS5 := Hid.intro (HS4.out.kept hb5)
    have HI5 := Hid.intro (HI4.out.kept hb5)
    clear hb5 KO z0 z1 z2 z3 z4 htb HS4 HI4
    obtain ⟨z0, z1, z2, z3, z4⟩ := HS5.out.at
    have htb := (Array.getElem?_eq_some_iff.1 HS5.out.2.2).1
    go_wp2_with fail
    refine (implGrdOf ac ar cc cr t HDr.out _ HS5.out.2.1.1 HS5.out.2.1.2).mono ?_
    rintro e w6 ⟨vg, rfl, hO6, hb6⟩
    obtain ⟨ag, cg, rfl⟩ := own_slice hO6
    have hG6 := hO6.at (gOf_gok HDr.out)
    have HG : Hid (SGr w tb w6.heap.size ac ar cc cr t ag cg (w6.alloc (.cells #[.int .i64 (gOf t).rows, .int .i64 (gOf t).cols, .slice ag (gOf t).cells.length cg] 46))) :=
      ⟨(HS5.out.kept hb6).kept (k_alloc (Below.refl _ _) _), (hG6.base (by have := HS5.out.1.size; omega)).kept (k_alloc (Below.refl _ _) _), newestB _ _⟩
    have HI6 := Hid.intro ((HI5.out.kept hb6).kept (k_alloc (Below.refl _ _) (.cells #[.int .i64 (gOf t).rows, .int .i64 (gOf t).cols, .slice ag (gOf t).cells.length cg] 46)))
    clear hO6 hb6 hG6 HS5 HI5 z0 z1 z2 z3 z4 htb
    go_upto_region 10 with fail
    generalize w6.alloc (.cells #[.int .i64 (gOf t).rows, .int .i64 (gOf t).cols, .slice ag (gOf t).cells.length cg] 46) = W6 at HG HI6 ⊢
    generalize w6.heap.size = gb at HG ⊢
    go_wp2_with fail
    go_loopw [6] (fun s W => ∃ k : Nat, s = .int .i64 k ∧ k ≤ (gOf t).cells.length ∧ Hid (Below W6.heap.size W6 W)) (fun s _ => (gOf t).cells.length - (intOf s).toNat)
    case atStart => exact ⟨0, rfl, Nat.zero_le _, Below.refl _ _⟩
    case round =>
      obtain ⟨k, rfl, hk, HB⟩ := hrel
      have HGr := Hid.intro (HG.out.kept HB.out)
      have HIr := Hid.intro (HI6.out.kept HB.out)
      obtain ⟨y0, y1, y2⟩ := HGr.out.at
      have hgb := (Array.getElem?_eq_some_iff.1 HGr.out.2.2).1
      by_cases hkl : k < (gOf t).cells.length
      case pos => as_aux_lemma =>
        obtain ⟨b, off, cap', e', hc1, hc2, hbl, hx, _⟩ := At.get HGr.out.2.1 hkl
        simp only [Value.slice.injEq, true_and] at e'
        obtain ⟨rfl, rfl⟩ := e'
        unfold maxLen at hc2
        have hxm := getD_mem' (d := dG) hkl
        have HCe := Hid.intro (HCel.out k hkl)
        have hgo := HGk.out _ hxm
        have hcv := cellV_has HCe.out (l := leastL t) (fun i hi => by have := HUp.out i hi; omega) hlL
        have hle := HHas.out k hkl
        rw [← hcv] at hle
        have hle2 : ¬ (cellV (leastL t) t.gap ((gOf t).cells.getD k dG) < ((leastOf (wordsW (textOf t ((gOf t).cells.getD k dG))) : Nat) : Int)) := Int.not_lt.2 hle
        generalize (gOf t).cells.getD k dG = x at hx hgo HCe hle2
        clear hle hcv hxm
        have hsz := text_size HCe.out HGr.out.1.2.1.2
        have hne := bw_some wr
        have KW := Hid.intro (fun (p : BW wr) => bw_of (implWidCell (.slice al C cl) (leastL t) (by omega) t.gap x hgo p.u (HIr.out.kept p.h)))
        have KT := Hid.intro (fun (p : BW wr) => bw_of ((lawspwText ac ar cc cr t x HCe.out p.u (HGr.out.kept p.h).1.2.1.2).mono (fun _ _ ⟨h1, _, h2⟩ => And.intro h1 h2)))
        have KL := Hid.intro (fun (p : BW wr) => bw_of (implTxtLeast (textOf t x) hsz p.u))
        generalize cellV (leastL t) t.gap x = q1 at KW hle2
        generalize textOf t x = s at KT KL hle2 hsz
        generalize leastOf (wordsW s) = q2 at KL hle2
        obtain ⟨x0, x1, x2, x3, x4⟩ := hx
        have htb := (Array.getElem?_eq_some_iff.1 HGr.out.1.2.2).1
        have m0 := bw_cell (a := ⟨tb, 0, none⟩) htb (cellB (p := 0) HGr.out.1.2.2)
        have m1 := bw_cell (a := ⟨tb, 1, none⟩) htb (cellB (p := 1) HGr.out.1.2.2)
        have m2 := bw_cell (a := ⟨tb, 2, none⟩) htb (cellB (p := 2) HGr.out.1.2.2)
        have m3 := bw_cell (a := ⟨tb, 3, none⟩) htb (cellB (p := 3) HGr.out.1.2.2)
        have m4 := bw_cell (a := ⟨tb, 4, none⟩) htb (cellB (p := 4) HGr.out.1.2.2)
        have m5 := bw_cell (a := ⟨gb, 2, none⟩) hgb y2
        have c0 := bw_cell hbl x0
        have c1 := bw_cell hbl x1
        have c2 := bw_cell hbl x2
        have c3 := bw_cell hbl x3
        have c4 := bw_cell hbl x4
        clear x0 x1 x2 x3 x4 HCe
        go_upto_region 13 with fail
        refine wp_region_quiet_below hmx (by kernel_rfl) ?_
        repeat (go_big_quiet_step (first | (go_at_call 28; refine KW.out _) | (go_at_call 30; refine KT.out _) | (go_at_call 29; refine KL.out _)))
        refine wpQuiet_nil ?_
        intro W7 hw'
        obtain ⟨⟨Wx, hW7⟩, hw''⟩ := hw'
        subst hw''
        have HB7 := Hid.intro (k_trans HB.out hW7)
        clear m0 m1 m2 m3 m4 m5 c0 c1 c2 c3 c4 KW KT KL hne hW7
        go_wp2
        go_roundw
        case rel => exact ⟨k + 1, by go_num, by omega, HB7⟩
        case measure => simp [intOf]; omega
      obtain rfl : k = (gOf t).cells.length := by omega
      clear HG HI6
      go_wp2_with fail
      go_loopw [7] (fun s W => ∃ j : Nat, s = .int .i64 j ∧ j ≤ C ∧ Hid (Below wr.heap.size wr W)) (fun s _ => C - (intOf s).toNat)
      case atStart => exact ⟨0, rfl, Nat.zero_le _, Below.refl _ _⟩
      case round => as_aux_lemma =>
        obtain ⟨j, rfl, hj, HB2⟩ := hrel
        have HGs := Hid.intro (HGr.out.kept HB2.out)
        have HIs := Hid.intro (HIr.out.kept HB2.out)
        clear HGr HIr y0 y1 y2 hgb
        obtain ⟨y0, y1, y2⟩ := HGs.out.at
        have hgb := (Array.getElem?_eq_some_iff.1 HGs.out.2.2).1
        by_cases hjl : j < C
        case neg =>
          obtain rfl : j = C := by omega
          rw [HGC.out] at y1
          have hcc : ((j : Int) == (j : Int)) = true := by simp
          have HK := Hid.intro HGs.out.1.1
          go_wp2
          go_ret
          exact ⟨rfl, HK.out⟩
        obtain ⟨z0, z1, z2, z3, z4⟩ := HGs.out.1.at
        have htb := (Array.getElem?_eq_some_iff.1 HGs.out.1.2.2).1
        have KS := Hid.intro (implColSaid ac ar cc cr t (j : Int) wr HGs.out.1.2.1.1 HGs.out.1.2.1.2)
        rw [HSd.out] at KS
        have hup := HUp.out j (by omega)
        have hfx : (sd t.cols j).1 = 1 → (sd t.cols j).2 ≤ (leastL t).getD j 0 := fun h => by
          rw [leastL_get (by rw [colN_of HGC.out]; exact hjl)]
          unfold fixV
          rw [if_pos h]
          omega
        generalize sd t.cols j = p at KS hfx
        go_wp2_with fail
        refine KS.out.mono ?_
        rintro e w8 ⟨rfl, hb8⟩
        have HX8 := Hid.intro (newestB w8 (.cells #[.int .i64 p.1, .int .i64 p.2] 54))
        have HB8 := Hid.intro (k_alloc (k_trans HB2.out hb8) (.cells #[.int .i64 p.1, .int .i64 p.2] 54))
        have HI8 := Hid.intro ((HIs.out.kept hb8).kept (k_alloc (Below.refl _ _) (.cells #[.int .i64 p.1, .int .i64 p.2] 54)))
        clear hb8 HIs HGs z0 z1 z2 z3 z4 htb KS y0 y1 y2 hgb HB2
        go_upto_region 19 with fail
        generalize w8.alloc (.cells #[.int .i64 p.1, .int .i64 p.2] 54) = W8 at HX8 HB8 HI8 ⊢
        generalize w8.heap.size = pb at HX8 ⊢
        obtain ⟨b, off, cap', e', hc1, hc2, hbl, hx⟩ := HI8.out.get (i := j) (by omega)
        rw [hlL] at e' hc1
        simp only [Value.slice.injEq, true_and] at e'
        obtain ⟨rfl, rfl⟩ := e'
        unfold maxLen at hc2
        generalize (leastL t).getD j 0 = y at hx hup hfx
        have hpb := (Array.getElem?_eq_some_iff.1 HX8.out).1
        have hne := bw_some W8
        have m0 := bw_cell (a := ⟨pb, 0, none⟩) hpb (cellB (p := 0) HX8.out)
        have m1 := bw_cell (a := ⟨pb, 1, none⟩) hpb (cellB (p := 1) HX8.out)
        have m2 := bw_cell hbl hx
        have hy0 : ¬ y < 0 := by omega
        by_cases hp : p.1 = 1
        case pos =>
          have hpe : (p.1 == 1) = true := by simpa using hp
          have hyn : ¬ y < p.2 := by have := hfx hp; omega
          clear hfx hp
          refine wp_region_quiet_below hmx (by kernel_rfl) ?_
          repeat (go_big_quiet_step (fail))
          refine wpQuiet_nil ?_
          intro W9 hw'
          obtain ⟨⟨Wx, hW9⟩, hw''⟩ := hw'
          subst hw''
          have HB9 := Hid.intro (k_trans HB8.out hW9)
          clear m0 m1 m2 hne hW9
          go_wp2
          go_roundw
          case rel => exact ⟨j + 1, by go_num, by omega, HB9⟩
          case measure => simp [intOf]; omega
        case neg =>
          have hpe : (p.1 == 1) = false := by simpa using hp
          clear hfx hp
          refine wp_region_quiet_below hmx (by kernel_rfl) ?_
          repeat (go_big_quiet_step (fail))
          refine wpQuiet_nil ?_
          intro W9 hw'
          obtain ⟨⟨Wx, hW9⟩, hw''⟩ := hw'
          subst hw''
          have HB9 := Hid.intro (k_trans HB8.out hW9)
          clear m0 m1 m2 hne hW9
          go_wp2
          go_roundw
          case rel => exact ⟨j + 1, by go_num, by omega, HB9⟩
          case measure => simp [intOf]; omega

theorem lawColLeast (a : Option Addr) (len cap : Nat) (w : World) (h : IsCode w a len cap) :
    Calls Try.prog 7 #[.slice a len cap] w fun e w' => e = .returned (.bool true) ∧ Below w.heap.size w w' := by
  by_cases hl : len ≤ 1048576
  · exact lawColLeast_walk a len cap hl w h
  · have hl' : (1048576 : Int) < (len : Int) := by omega
    clear h
    go_enter Try.func7, Try.ntmps7
    go_wp2
    go_ret
    exact ⟨rfl, Below.refl _ _⟩
end Go.Proofs.Ytkppaokkopfklad
