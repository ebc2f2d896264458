/-
  PROVED HERE: the law FnWidLeast returns true at every code that lies in memory.
-/
import Derived.Test.YtkppaokkopfklaeGreatB43
import Derived.Test.YtkppaokkopfklaeGreatB51
import Derived.Test.YtkppaokkopfklaeGreatB53
import Derived.Test.YtkppaokkopfklaeGreatB42
import Derived.Test.YtkppaokkopfklaeGreatB22
import Derived.Test.YtkppaokkopfklaeGreatB36
import Derived.Test.YtkppaokkopfklaeGreatB27
import Derived.Test.YtkppaokkopfklaeGreatB26
namespace Go.Proofs.YtkppaokkopfklaeGreat
open Go.RowKit Go.BigFrame

theorem sdT_okL {t : T} (h : tblB t = true) (q : Int) : sdT t q = sd t.cols q := by unfold sdT; rw [if_pos h]
set_option maxRecDepth 100000 in
set_option maxHeartbeats 2000000 in
theorem lawWL_walk (A : Option Addr) (len cap : Nat) (hlen : len ≤ 1048576) (w : World) (h : IsCode w A len cap) :
    Calls Tryz.prog 5 #[.slice A len cap] w fun e w' => e = .returned (.bool true) ∧ Below w.heap.size w w' := by
  have hl : ¬ (1048576 : Int) < (len : Int) := by omega
  have hmx : Tryz.prog.follows .mixedOrders = true := by kernel_rfl
  have hf0 := field0
  have HD := Hid.intro h
  clear h
  go_enter Tryz.func5, Tryz.ntmps5
  go_wp2_with fail
  refine (drawWidCols_any _ _ _ _ HD.out).mono ?_
  rintro e w1 ⟨ac, ar, cc, cr, t, x, rfl, hD, hxb, hC1, hW1, hb1⟩
  have HS : Hid (St w w1.heap.size ac ar cc cr t (w1.alloc (.cells #[.slice ac t.cols.length cc, .int .i64 t.head, .int .i64 t.foot, .slice ar t.rows.length cr, .int .i64 t.gap] 26))) := ⟨hb1.alloc hb1.size _, TA.kept ⟨hC1, hW1⟩ (k_alloc (Below.refl _ _) _), newestB _ _⟩
  have HDr := Hid.intro hD
  have HzW : Hid (w.heap.size ≤ w1.heap.size) := hb1.size
  obtain ⟨h40, C, hgc, hC88, hcel⟩ := cel_of hD
  have HCel := Hid.intro hcel
  have hlL : (leastL t).length = C := by rw [leastL_len, colN_of hgc]
  have HUp := Hid.intro (leastL_up hD)
  have HGk := Hid.intro (gOf_gok hD)
  have HF : Hid (∀ k, k < (widT t x).length → k < C ∧ (0 ≤ (leastL t).getD k 0 ∧ (leastL t).getD k 0 ≤ (widT t x).getD k 0 ∧ (widT t x).getD k 0 ≤ 5000) ∧ ((sdT t (k : Int)).1 = 1 → (widT t x).getD k 0 = (leastL t).getD k 0)) := fun k hk => by
    obtain ⟨hok, hw, e⟩ := widT_yes (t := t) (x := x) (by omega)
    obtain ⟨f1, _, f3⟩ := wid_facts hD hok hw
    rw [e] at hk ⊢
    have hkC : k < colN t := by rw [← f1]; exact hk
    have a := f3 k hkC
    have b := leastL_up hD k (by rw [leastL_len]; exact hkC)
    have c := wid_up hD hok hw k hk
    refine ⟨by rw [← colN_of hgc]; exact hkC, ⟨b.1, a.1, c.2⟩, fun hs => a.2 ?_⟩
    rw [sdT_okL hok] at hs
    simpa [kindP] using hs
  have HG : Hid (∀ k, k < (gOf t).cells.length → 0 < (widT t x).length → ¬ cellV (widT t x) t.gap ((gOf t).cells.getD k dG) < ((leastOf (wordsW (textOf t ((gOf t).cells.getD k dG))) : Nat) : Int)) := fun k hk hp => by
    obtain ⟨hok, hw, e⟩ := widT_yes hp
    rw [e]
    exact wid_cell hD hok hw hgc hk (hcel k hk)
  have hM : (widT t x).length ≤ 88 := by
    by_cases hp : 0 < (widT t x).length
    · have := HF.out ((widT t x).length - 1) (by omega)
      omega
    · omega
  have HWi := Hid.intro (fun W (h : TA W w.heap.size ac ar cc cr t) => implWidCols ac ar cc cr t hD x W h.1 h.2)
  have HWs := Hid.intro (fun W (h : TA W w.heap.size ac ar cc cr t) => specWidCols ac ar cc cr t hD x W h.1 h.2)
  generalize widT t x = WL at HF HG hM HWi HWs
  clear hC1 hW1 hb1 hD HD hcel hgc
  go_upto_region 4 with fail
  generalize w1.alloc (.cells #[.slice ac t.cols.length cc, .int .i64 t.head, .int .i64 t.foot, .slice ar t.rows.length cr, .int .i64 t.gap] 26) = W1 at HS ⊢
  generalize w1.heap.size = tb at HS HzW ⊢
  obtain ⟨z0, z1, z2, z3, z4⟩ := HS.out.at
  go_wp2_with fail
  refine (HWi.out _ HS.out.2.1).mono ?_
  rintro e w2 ⟨v2, rfl, hR2, hb2⟩
  obtain ⟨al, cl, rfl⟩ := hR2.form
  have HI := Hid.intro hR2.at
  replace HS := Hid.intro (HS.out.kept hb2)
  clear hR2 hb2 z0 z1 z2 z3 z4
  obtain ⟨z0, z1, z2, z3, z4⟩ := HS.out.at
  go_wp2_with fail
  refine (HWs.out _ HS.out.2.1).mono ?_
  rintro e w3 ⟨v3, rfl, hR3, hb3⟩
  obtain ⟨a3, c3, rfl⟩ := hR3.form
  have HJ3 := Hid.intro hR3.at
  replace HI := Hid.intro (HI.out.kept hb3)
  replace HS := Hid.intro (HS.out.kept hb3)
  clear hR3 hb3 z0 z1 z2 z3 z4 HWi HWs
  go_wp2_with fail
  refine (pwInts_any _ _ WL _ HI.out HJ3.out).mono ?_
  rintro e w4 ⟨rfl, n4, e4⟩
  have HI4 : Hid (IntsAt w4 (.slice al WL.length cl) WL) := by rw [e4]; exact HI.out.kept (k_drewN (Below.refl _ _) n4)
  have HS4 : Hid (St w tb ac ar cc cr t w4) := by rw [e4]; exact HS.out.kept (k_drewN (Below.refl _ _) n4)
  clear e4 HI HJ3 HS
  obtain ⟨z0, z1, z2, z3, z4⟩ := HS4.out.at
  go_wp2_with fail
  refine (implColLeast ac ar cc cr t HDr.out _ HS4.out.2.1.1 HS4.out.2.1.2).mono ?_
  rintro e w5 ⟨v5, rfl, hR5, hb5⟩
  obtain ⟨ae, ce, rfl⟩ := hR5.form
  rw [hlL] at hR5 ⊢
  have HE5 := Hid.intro hR5.at
  have HS5 := Hid.intro (HS4.out.kept hb5)
  have HI5 := Hid.intro (HI4.out.kept hb5)
  clear hR5 hb5 z0 z1 z2 z3 z4 HS4 HI4
  obtain ⟨z0, z1, z2, z3, z4⟩ := HS5.out.at
  go_wp2_with fail
  refine (implGrdOf ac ar cc cr t HDr.out _ HS5.out.2.1.1 HS5.out.2.1.2).mono ?_
  rintro e w6 ⟨vg, rfl, hO6, hb6⟩
  obtain ⟨ag, cg, rfl⟩ := own_slice hO6
  have hG6 := hO6.at (gOf_gok HDr.out)
  have HGr0 : Hid (SGr w tb w6.heap.size ac ar cc cr t ag cg (w6.alloc (.cells #[.int .i64 (gOf t).rows, .int .i64 (gOf t).cols, .slice ag (gOf t).cells.length cg] 36))) :=
    ⟨(HS5.out.kept hb6).kept (k_alloc (Below.refl _ _) _), (hG6.base (by have := HS5.out.1.size; omega)).kept (k_alloc (Below.refl _ _) _), newestB _ _⟩
  have HI6 := Hid.intro ((HI5.out.kept hb6).kept (k_alloc (Below.refl _ _) (.cells #[.int .i64 (gOf t).rows, .int .i64 (gOf t).cols, .slice ag (gOf t).cells.length cg] 36)))
  have HE6 := Hid.intro ((HE5.out.kept hb6).kept (k_alloc (Below.refl _ _) (.cells #[.int .i64 (gOf t).rows, .int .i64 (gOf t).cols, .slice ag (gOf t).cells.length cg] 36)))
  clear hO6 hb6 hG6 HS5 HI5 HE5 z0 z1 z2 z3 z4
  go_upto_region 9 with fail
  generalize w6.alloc (.cells #[.int .i64 (gOf t).rows, .int .i64 (gOf t).cols, .slice ag (gOf t).cells.length cg] 36) = W6 at HGr0 HI6 HE6 ⊢
  generalize w6.heap.size = gb at HGr0 ⊢
  have HlL := Hid.intro hlL
  clear hlL
  go_wp2_with fail
  go_loopw [8] (fun s W => ∃ k : Nat, s = .int .i64 k ∧ k ≤ WL.length ∧ Hid (Below W6.heap.size W6 W)) (fun s _ => WL.length - (intOf s).toNat)
  case atStart => exact ⟨0, rfl, Nat.zero_le _, Below.refl _ _⟩
  case round =>
    obtain ⟨k, rfl, hk, HB⟩ := hrel
    have HGr := Hid.intro (HGr0.out.kept HB.out)
    have HIr := Hid.intro (HI6.out.kept HB.out)
    by_cases hkl : k < WL.length
    case pos => as_aux_lemma =>
      obtain ⟨hkC, hbd, hfx⟩ := HF.out k hkl
      obtain ⟨b1, o1, c1', e1, hc11, hc12, hb1, hx1⟩ := HIr.out.get hkl
      simp only [Value.slice.injEq, true_and] at e1
      obtain ⟨rfl, rfl⟩ := e1
      obtain ⟨b2, o2, c2', e2, hc21, hc22, hb2, hx2⟩ := (HE6.out.kept HB.out).get (i := k) (by rw [HlL.out]; exact hkC)
      rw [HlL.out] at e2 hc21
      simp only [Value.slice.injEq, true_and] at e2
      obtain ⟨rfl, rfl⟩ := e2
      have htb := (Array.getElem?_eq_some_iff.1 HGr.out.1.2.2).1
      have m0 := bw_cell (a := ⟨tb, 0, none⟩) htb (cellB (p := 0) HGr.out.1.2.2)
      have m1 := bw_cell (a := ⟨tb, 1, none⟩) htb (cellB (p := 1) HGr.out.1.2.2)
      have m2 := bw_cell (a := ⟨tb, 2, none⟩) htb (cellB (p := 2) HGr.out.1.2.2)
      have m3 := bw_cell (a := ⟨tb, 3, none⟩) htb (cellB (p := 3) HGr.out.1.2.2)
      have m4 := bw_cell (a := ⟨tb, 4, none⟩) htb (cellB (p := 4) HGr.out.1.2.2)
      have m5 := bw_cell hb1 hx1
      have m6 := bw_cell hb2 hx2
      have hne := bw_some wr
      have KS := Hid.intro (fun (p : BW wr) => bw_of (implColSaid ac ar cc cr t (k : Int) p.u (HGr.out.kept p.h).1.2.1.1 (HGr.out.kept p.h).1.2.1.2))
      generalize sdT t (k : Int) = p at KS hfx
      generalize WL.getD k 0 = x1 at hx1 m5 hbd hfx
      generalize (leastL t).getD k 0 = y1 at hx2 m6 hbd hfx
      have hlt1 : ¬ x1 < y1 := by omega
      unfold maxLen at hc12 hc22
      clear hx1 hx2
      go_upto_region 12 with fail
      by_cases hp : p.1 = 1
      case pos =>
        have hpe : (p.1 == 1) = true := by simpa using hp
        have hxy : (x1 != y1) = false := by rw [hfx hp]; simp
        clear hfx hp hbd
        refine wp_region_quiet_below hmx (by kernel_rfl) ?_
        repeat (go_big_quiet_step (first | (go_at_call 22; refine KS.out _)))
        refine wpQuiet_nil ?_
        intro W9 hw'
        obtain ⟨⟨Wx, hW9⟩, hw''⟩ := hw'
        subst hw''
        have HB9 := Hid.intro (k_trans HB.out hW9)
        clear m0 m1 m2 m3 m4 m5 m6 hne hW9 KS
        go_wp2
        go_roundw
        case rel => exact ⟨k + 1, by go_num, by omega, HB9⟩
        case measure => simp [intOf]; omega
      case neg =>
        have hpe : (p.1 == 1) = false := by simpa using hp
        clear hfx hp hbd
        refine wp_region_quiet_below hmx (by kernel_rfl) ?_
        repeat (go_big_quiet_step (first | (go_at_call 22; refine KS.out _)))
        refine wpQuiet_nil ?_
        intro W9 hw'
        obtain ⟨⟨Wx, hW9⟩, hw''⟩ := hw'
        subst hw''
        have HB9 := Hid.intro (k_trans HB.out hW9)
        clear m0 m1 m2 m3 m4 m5 m6 hne hW9 KS
        go_wp2
        go_roundw
        case rel => exact ⟨k + 1, by go_num, by omega, HB9⟩
        case measure => simp [intOf]; omega
    obtain rfl : k = WL.length := by omega
    clear HGr0 HI6 HE6
    go_wp2_with fail
    go_loopw [9] (fun s W => ∃ j : Nat, s = .int .i64 j ∧ j ≤ (gOf t).cells.length ∧ Hid (Below wr.heap.size wr W)) (fun s _ => (gOf t).cells.length - (intOf s).toNat)
    case atStart => exact ⟨0, rfl, Nat.zero_le _, Below.refl _ _⟩
    case round => as_aux_lemma =>
      obtain ⟨j, rfl, hj, HB2⟩ := hrel
      have HGs := Hid.intro (HGr.out.kept HB2.out)
      have HIs := Hid.intro (HIr.out.kept HB2.out)
      clear HGr HIr
      obtain ⟨y0, y1, y2⟩ := HGs.out.at
      have hgb := (Array.getElem?_eq_some_iff.1 HGs.out.2.2).1
      by_cases hjl : j < (gOf t).cells.length
      case neg =>
        have HK := Hid.intro HGs.out.1.1
        obtain rfl : j = (gOf t).cells.length := by omega
        go_wp2_with fail
        refine (pwOk_any _).mono ?_
        rintro e w9 ⟨rfl, rfl⟩
        go_wp2
        go_ret
        exact ⟨rfl, HK.out⟩
      by_cases hMp : 0 < WL.length
      case neg =>
        have HK := Hid.intro HGs.out.1.1
        have hM0 : ¬ (0 : Int) < (WL.length : Int) := by omega
        go_wp2_with fail
        refine (pwOk_any _).mono ?_
        rintro e w9 ⟨rfl, rfl⟩
        go_wp2
        go_ret
        exact ⟨rfl, HK.out⟩
      obtain ⟨b, off, cap', e', hc1, hc2, hbl, hx, _⟩ := At.get HGs.out.2.1 hjl
      simp only [Value.slice.injEq, true_and] at e'
      obtain ⟨rfl, rfl⟩ := e'
      unfold maxLen at hc2
      have hxm := getD_mem' (d := dG) hjl
      have HCe := Hid.intro (HCel.out j hjl)
      have hgo := HGk.out _ hxm
      have hle2 := HG.out j hjl hMp
      generalize (gOf t).cells.getD j dG = x at hx hgo HCe hle2
      clear hxm
      have hsz := text_size HCe.out HGs.out.1.2.1.2
      have hne := bw_some wr
      have KW := Hid.intro (fun (p : BW wr) => bw_of (implWidCell (.slice al WL.length cl) WL (by omega) t.gap x hgo p.u (HIs.out.kept p.h)))
      have KT := Hid.intro (fun (p : BW wr) => bw_of ((lawspwText ac ar cc cr t x HCe.out p.u (HGs.out.kept p.h).1.2.1.2).mono (fun _ _ ⟨h1, _, h2⟩ => And.intro h1 h2)))
      have KL := Hid.intro (fun (p : BW wr) => bw_of (implTxtLeast (textOf t x) hsz p.u))
      generalize cellV WL t.gap x = q1 at KW hle2
      generalize textOf t x = s at KT KL hle2 hsz
      generalize leastOf (wordsW s) = q2 at KL hle2
      obtain ⟨x0, x1, x2, x3, x4⟩ := hx
      have htb := (Array.getElem?_eq_some_iff.1 HGs.out.1.2.2).1
      have m0 := bw_cell (a := ⟨tb, 0, none⟩) htb (cellB (p := 0) HGs.out.1.2.2)
      have m1 := bw_cell (a := ⟨tb, 1, none⟩) htb (cellB (p := 1) HGs.out.1.2.2)
      have m2 := bw_cell (a := ⟨tb, 2, none⟩) htb (cellB (p := 2) HGs.out.1.2.2)
      have m3 := bw_cell (a := ⟨tb, 3, none⟩) htb (cellB (p := 3) HGs.out.1.2.2)
      have m4 := bw_cell (a := ⟨tb, 4, none⟩) htb (cellB (p := 4) HGs.out.1.2.2)
      have m5 := bw_cell (a := ⟨gb, 2, none⟩) hgb y2
      have c0 := bw_cell hbl x0
      have c1 := bw_cell hbl x1
      have c2 := bw_cell hbl x2
      have c3 := bw_cell hbl x3
      have c4 := bw_cell hbl x4
      clear x0 x1 x2 x3 x4 HCe
      go_upto_region 17 with fail
      refine wp_region_quiet_below hmx (by kernel_rfl) ?_
      repeat (go_big_quiet_step (first | (go_at_call 23; refine KW.out _) | (go_at_call 25; refine KT.out _) | (go_at_call 24; refine KL.out _)))
      refine wpQuiet_nil ?_
      intro W7 hw'
      obtain ⟨⟨Wx, hW7⟩, hw''⟩ := hw'
      subst hw''
      have HB7 := Hid.intro (k_trans HB2.out hW7)
      clear m0 m1 m2 m3 m4 m5 c0 c1 c2 c3 c4 KW KT KL hne hW7
      go_wp2
      go_roundw
      case rel => exact ⟨j + 1, by go_num, by omega, HB7⟩
      case measure => simp [intOf]; omega

theorem lawWidLeast (a : Option Addr) (len cap : Nat) (w : World) (h : IsCode w a len cap) :
    Calls Tryz.prog 5 #[.slice a len cap] w fun e w' => e = .returned (.bool true) ∧ Below w.heap.size w w' := by
  by_cases hl : len ≤ 1048576
  · exact lawWL_walk a len cap hl w h
  · have hl' : (1048576 : Int) < (len : Int) := by omega
    clear h
    go_enter Tryz.func5, Tryz.ntmps5
    go_wp2
    go_ret
    exact ⟨rfl, Below.refl _ _⟩
end Go.Proofs.YtkppaokkopfklaeGreat
