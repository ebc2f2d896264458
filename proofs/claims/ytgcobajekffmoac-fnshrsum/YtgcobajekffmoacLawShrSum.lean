/-
  PROVED HERE: the law FnShrSum returns true at every code that lies in memory.
-/
import Derived.Test.YtgcobajekffmoacDrawShr
import Derived.Test.YtgcobajekffmoacShareI
import Derived.Test.YtgcobajekffmoacShareS2
import Derived.Test.YtgcobajekffmoacShareTh2
import Derived.Test.YtgcobajekffmoacPwInts
import Derived.Test.YtgcobajekffmoacPwOk
namespace Go.Proofs.Ytgcobajekffmoac
open Go.RowKit

theorem elem_le_sum {L : List Int} (h : ∀ x ∈ L, 0 ≤ x) : 0 ≤ L.sum ∧ ∀ x ∈ L, x ≤ L.sum := by
  induction L with
  | nil => exact ⟨Int.le_refl _, fun x hx => by cases hx⟩
  | cons y r ih =>
    obtain ⟨h1, h2⟩ := ih (fun x hx => h x (List.mem_cons_of_mem _ hx))
    have h3 := h y List.mem_cons_self
    rw [List.sum_cons]
    refine ⟨by omega, fun x hx => ?_⟩
    rcases List.mem_cons.1 hx with rfl | hx
    · omega
    · have := h2 x hx; omega
theorem share_wt {t : Int} {l : List Int} (h1 : shrOkB t l = true) : (shareL t l).all wtB = true := by
  by_cases h0 : 0 < l.length
  · have hs := share_sum h1 h0
    have hn : ∀ x ∈ shareL t l, 0 ≤ x := fun x hx => by
      obtain ⟨i, hi, rfl⟩ := List.getElem_of_mem hx
      have := (shareL_small (t := t) (l := l) i hi).1
      simpa [List.getD, hi] using this
    have ht := (shrOk_parts h1).1
    rw [List.all_eq_true]
    intro x hx
    have h2 := (elem_le_sum hn).2 x hx
    have h3 := hn x hx
    simp only [wtB, decide_eq_true_eq]
    omega
  · rw [shareL_none (by have : l = [] := List.eq_nil_of_length_eq_zero (by omega); simp [this])]
    rfl

set_option maxRecDepth 100000 in
set_option maxHeartbeats 8000000 in
theorem lawShrSum (a : Option Addr) (len cap : Nat) (w : World) (h : IsCode w a len cap) :
    Calls Try.prog 6 #[.slice a len cap] w fun e w' => e = .returned (.bool true) ∧ Below w.heap.size w w' := by
  have hlen : len ≤ 9223372036854775807 := by have h1 := h.1; have h2 := h.2.1; unfold maxLen at h2; omega
  have HC := Hid.intro h
  clear h
  by_cases hbig : (1048576 : Int) < (len : Int)
  · go_enter Try.func6, Try.ntmps6
    go_wp2
    go_ret
    exact ⟨rfl, Below.refl _ _⟩
  · go_enter Try.func6, Try.ntmps6
    go_wp2_with fail
    refine (drawShrShare_any _ _ _ _ HC.out).mono ?_
    rintro e w1 ⟨t, aa, cc, l, rfl, ht1, ht2, hl, _, hr1, hb1⟩
    have R1 := Hid.intro hr1.at
    have K1 := Hid.intro hb1
    have HI := Hid.intro (fun W => implShrShare t (.slice aa l.length cc) l W)
    have HS := Hid.intro (fun W => specShrShare t (.slice aa l.length cc) l W)
    have HO := Hid.intro (fun W => specShrOk t (.slice aa l.length cc) l W)
    have HP := Hid.intro (fun W => implShrOk t (.slice aa l.length cc) l W)
    have HD := Hid.intro (fun k W => implShrDue t (.slice aa l.length cc) l k W)
    clear hr1 hb1
    go_wp2_with fail
    refine (HI.out _ R1.out).mono ?_
    rintro e w2 ⟨v2, rfl, hr, hb⟩
    obtain ⟨a2, c2, rfl⟩ := hr.form
    have X2 := Hid.intro hr.at
    have R2 := Hid.intro (R1.out.kept hb)
    have K2 := Hid.intro (k_trans K1.out hb)
    clear hr hb R1 K1
    go_wp2_with fail
    refine (HS.out _ R2.out).mono ?_
    rintro e w3 ⟨v3, rfl, hr, hb⟩
    obtain ⟨a3, c3, rfl⟩ := hr.form
    have Y3 := Hid.intro hr.at
    have X3 := Hid.intro (X2.out.kept hb)
    have R3 := Hid.intro (R2.out.kept hb)
    have K3 := Hid.intro (k_trans K2.out hb)
    clear hr hb R2 K2 X2
    go_wp2_with fail
    refine (pwInts_any _ _ (shareL t l) _ X3.out Y3.out).mono ?_
    rintro e w4 ⟨rfl, n4, e4⟩
    have X4 : Hid (IntsAt w4 (.slice a2 (shareL t l).length c2) (shareL t l)) := by rw [e4]; exact X3.out
    have R4 : Hid (IntsAt w4 (.slice aa l.length cc) l) := by rw [e4]; exact R3.out
    have K4 : Hid (Below w.heap.size w w4) := by rw [e4]; exact k_drewN K3.out n4
    clear e4 X3 R3 K3 Y3
    go_wp2_with fail
    refine (HP.out _ R4.out).mono ?_
    rintro e w5 ⟨rfl, e5⟩
    cases e5
    go_wp2_with fail
    refine (HO.out _ R4.out).mono ?_
    rintro e w5 ⟨rfl, e5⟩
    cases e5
    have hbb : (shrOkB t l != shrOkB t l) = false := by simp
    go_wp2_with fail
    refine (HO.out _ R4.out).mono ?_
    rintro e w5 ⟨rfl, e5⟩
    cases e5
    clear hbb
    by_cases hok : shrOkB t l = true
    · rw [hok]
      by_cases h0 : 0 < l.length
      · have hsl := shareL_len hok
        obtain ⟨ht, hll, hw⟩ := shrOk_parts hok
        have hsb := sum_bound hw
        have HPS := Hid.intro (fun W => lawspwSum_any (.slice aa l.length cc) l (by omega) hw W)
        have HXW := Hid.intro (share_wt hok)
        have HSS := Hid.intro (share_sum hok h0)
        have HDU := Hid.intro (fun hs i hi => share_due hok (i := i) hs hi)
        have HZE := Hid.intro (fun hs i hi => share_zero hok (i := i) hs hi)
        have hl0 : ((l.length : Int) == 0) = false := beq_eq_false_iff_ne.2 (by omega)
        rw [hsl] at X4 ⊢
        have HSL := Hid.intro hsl
        generalize shareL t l = x at X4 HXW HSS HDU HZE HSL
        clear hsl hw
        go_wp2_with fail
        refine (HPS.out _ R4.out).mono ?_
        rintro e w5 ⟨rfl, e5⟩
        cases e5
        by_cases hs : l.sum = 0
        · rw [hs]
          go_wp2_with fail
          go_loopw [7] (fun s7 W => ∃ i : Nat, i ≤ l.length ∧ s7 = .int .i64 i ∧ W = w4) (fun s7 _ => l.length - (intOf s7).toNat)
          case atStart => exact ⟨0, Nat.zero_le _, rfl, rfl⟩
          case round =>
            obtain ⟨i, hi, rfl, rfl⟩ := hrel
            by_cases hlt : i < l.length
            · have hltz : (i : Int) < (l.length : Int) := by omega
              go_wp2_with fail
              refine (HD.out _ _ R4.out).mono ?_
              rintro e w5 ⟨rfl, e5⟩
              cases e5
              generalize dueV t l i = dv
              go_wp2
              go_roundw
              case rel => exact ⟨i + 1, by omega, by go_num, by first | rfl | trivial⟩
              case measure => simp [intOf]; omega
            · obtain rfl : i = l.length := by omega
              have HPX := lawspwSum_any (.slice a2 l.length c2) x (by rw [HSL.out]; omega) HXW.out wr X4.out
              rw [HSS.out] at HPX
              go_wp2_with fail
              refine HPX.mono ?_
              rintro e w5 ⟨rfl, e5⟩
              cases e5
              have htt : (t == t) = true := by simp
              go_wp2
              go_ret
              exact ⟨rfl, K4.out⟩
        · have hsp : 0 < l.sum := by omega
          have HDU2 := Hid.intro (HDU.out hs)
          have HZE2 := Hid.intro (HZE.out hs)
          generalize l.sum = sl at hsp hs hsb
          clear HDU HZE
          go_wp2_with fail
          go_loopw [7] (fun s7 W => ∃ i : Nat, i ≤ l.length ∧ s7 = .int .i64 i ∧ W = w4) (fun s7 _ => l.length - (intOf s7).toNat)
          case atStart => exact ⟨0, Nat.zero_le _, rfl, rfl⟩
          case round =>
            obtain ⟨i, hi, rfl, rfl⟩ := hrel
            by_cases hlt : i < l.length
            · have hltz : (i : Int) < (l.length : Int) := by omega
              obtain ⟨b1, off1, cap1, e1, hc11, hc12, hbl1, xi⟩ := X4.out.get (i := i) (by rw [HSL.out]; exact hlt)
              rw [HSL.out] at e1 hc11
              simp only [Value.slice.injEq, true_and] at e1
              obtain ⟨rfl, rfl⟩ := e1
              obtain ⟨b3, off3, cap3, e3, hc31, hc32, hbl3, wi⟩ := R4.out.get (i := i) hlt
              simp only [Value.slice.injEq, true_and] at e3
              obtain ⟨rfl, rfl⟩ := e3
              unfold maxLen at hc12 hc32
              have hdu := HDU2.out i hlt
              have hze := HZE2.out i hlt
              have hdb := dueV_bounds (t := t) (l := l) i
              go_wp2_with fail
              refine (HD.out _ _ R4.out).mono ?_
              rintro e w5 ⟨rfl, e5⟩
              cases e5
              generalize dueV t l i = dv at hdu hdb
              generalize x.getD i 0 = zi at xi hdu hze
              generalize l.getD i 0 = yi at wi hze
              by_cases hy : yi = 0
              · obtain rfl : zi = 0 := hze hy
                subst hy
                clear hze
                rcases hdu with hd | hd
                · subst hd
                  have t1 : ((0 : Int) != 0) = false := by simp
                  go_wp2
                  go_roundw
                  case rel => exact ⟨i + 1, by omega, by go_num, by first | rfl | trivial⟩
                  case measure => simp [intOf]; omega
                · exfalso; omega
              · have hyb : (yi == 0) = false := by simpa using hy
                clear hze
                rcases hdu with hd | hd
                · have t1 : (zi != dv) = false := by simp [hd]
                  clear hd
                  go_wp2
                  go_roundw
                  case rel => exact ⟨i + 1, by omega, by go_num, by first | rfl | trivial⟩
                  case measure => simp [intOf]; omega
                · have t1 : (zi != dv) = true := by simp; omega
                  have t2 : (zi != dv + 1) = false := by simp [hd]
                  clear hd
                  go_wp2
                  go_roundw
                  case rel => exact ⟨i + 1, by omega, by go_num, by first | rfl | trivial⟩
                  case measure => simp [intOf]; omega
            · obtain rfl : i = l.length := by omega
              have HPX := lawspwSum_any (.slice a2 l.length c2) x (by rw [HSL.out]; omega) HXW.out wr X4.out
              rw [HSS.out] at HPX
              go_wp2_with fail
              refine HPX.mono ?_
              rintro e w5 ⟨rfl, e5⟩
              cases e5
              have htt : (t == t) = true := by simp
              go_wp2
              go_ret
              exact ⟨rfl, K4.out⟩
      · obtain rfl : l = [] := List.eq_nil_of_length_eq_zero (by omega)
        have hsl := shareL_none (t := t) (l := []) (by simp)
        rw [hsl]
        go_wp2_with fail
        refine (pwOk_any _).mono ?_
        rintro e w9 ⟨rfl, e9⟩
        cases e9
        go_wp2
        go_ret
        exact ⟨rfl, K4.out⟩
    · have hok' := eq_false_of_ne_true hok
      have hsl := shareL_none (t := t) (l := l) (by simp [hok'])
      rw [hok', hsl]
      go_wp2_with fail
      refine (pwOk_any _).mono ?_
      rintro e w9 ⟨rfl, e9⟩
      cases e9
      go_wp2
      go_ret
      exact ⟨rfl, K4.out⟩
end Go.Proofs.Ytgcobajekffmoac
