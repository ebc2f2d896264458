/-
  PROVED HERE: the law FnShrUpTo returns true at every code that lies in memory.
-/
import Derived.Test.YtgcobajekffmoadDrawShrU
import Derived.Test.YtgcobajekffmoadUpTo
import Derived.Test.YtgcobajekffmoadShareTh2
import Derived.Test.YtgcobajekffmoadPwInts
import Derived.Test.YtgcobajekffmoadPwOk
namespace Go.Proofs.Ytgcobajekffmoad
open Go.RowKit

theorem upTo_small {t : Int} {l : List Int} (h : shrOkB t l = true) : (upToL t l).length = l.length ∧ (∀ i, i < l.length → 0 ≤ (upToL t l).getD i 0 ∧ (upToL t l).getD i 0 ≤ l.getD i 0) ∧ (upToL t l).sum + upToN t l = t ∧ (upToN t l ≠ 0 → upToL t l = l) := by
  obtain ⟨ht, hl, hw⟩ := shrOk_parts h
  by_cases hs : l.sum ≤ t
  · obtain ⟨e1, e2⟩ := upTo_all h hs
    rw [e1, e2]
    exact ⟨rfl, fun i hi => ⟨(wt_get hw hi).1, Int.le_refl _⟩, by omega, fun _ => rfl⟩
  · obtain ⟨e1, e2⟩ := upTo_share h hs
    have h0 : 0 < l.length := by
      rcases Nat.eq_zero_or_pos l.length with h0 | h0
      · exfalso; rw [List.eq_nil_of_length_eq_zero h0] at hs; simp at hs; omega
      · exact h0
    rw [e1, e2]
    exact ⟨shareL_len h, fun i hi => share_upto h (by omega) hi, by rw [share_sum h h0]; omega, fun q => absurd rfl q⟩

set_option maxRecDepth 100000 in
set_option maxHeartbeats 8000000 in
theorem lawShrUpTo (a : Option Addr) (len cap : Nat) (w : World) (h : IsCode w a len cap) :
    Calls Try.prog 5 #[.slice a len cap] w fun e w' => e = .returned (.bool true) ∧ Below w.heap.size w w' := by
  have hlen : len ≤ 9223372036854775807 := by have h1 := h.1; have h2 := h.2.1; unfold maxLen at h2; omega
  have HC := Hid.intro h
  clear h
  by_cases hbig : (1048576 : Int) < (len : Int)
  · go_enter Try.func5, Try.ntmps5
    go_wp2
    go_ret
    exact ⟨rfl, Below.refl _ _⟩
  · go_enter Try.func5, Try.ntmps5
    go_wp2_with fail
    refine (drawShrUpTo_any _ _ _ _ HC.out).mono ?_
    rintro e w1 ⟨t, aa, cc, l, rfl, ht1, ht2, hl, _, hr1, hb1⟩
    have R1 := Hid.intro hr1.at
    have K1 := Hid.intro hb1
    have HI := Hid.intro (fun W => implShrUpTo t (.slice aa l.length cc) l W)
    have HS := Hid.intro (fun W => specShrUpTo t (.slice aa l.length cc) l W)
    have HO := Hid.intro (fun W => specShrOk t (.slice aa l.length cc) l W)
    have hyy : (upToN t l != upToN t l) = false := by simp
    clear hr1 hb1
    go_wp2_with fail
    refine (HI.out _ R1.out).mono ?_
    rintro e w2 ⟨v2, rfl, hr, hb⟩
    obtain ⟨a2, c2, rfl⟩ := hr.form
    have X2 := Hid.intro hr.at
    have R2 := Hid.intro (R1.out.kept hb)
    have K2 := Hid.intro (k_trans K1.out hb)
    clear hr hb R1 K1
    go_wp2_with fail
    refine (HS.out _ R2.out).mono ?_
    rintro e w3 ⟨v3, rfl, hr, hb⟩
    obtain ⟨a3, c3, rfl⟩ := hr.form
    have Y3 := Hid.intro hr.at
    have X3 := Hid.intro (X2.out.kept hb)
    have R3 := Hid.intro (R2.out.kept hb)
    have K3 := Hid.intro (k_trans K2.out hb)
    clear hr hb R2 K2 X2
    go_wp2_with fail
    refine (pwInts_any _ _ (upToL t l) _ X3.out Y3.out).mono ?_
    rintro e w4 ⟨rfl, n4, e4⟩
    have X4 : Hid (IntsAt w4 (.slice a2 (upToL t l).length c2) (upToL t l)) := by rw [e4]; exact X3.out
    have R4 : Hid (IntsAt w4 (.slice aa l.length cc) l) := by rw [e4]; exact R3.out
    have K4 : Hid (Below w.heap.size w w4) := by rw [e4]; exact k_drewN K3.out n4
    clear e4 X3 R3 K3 Y3
    go_wp2_with fail
    refine (HO.out _ R4.out).mono ?_
    rintro e w5 ⟨rfl, e5⟩
    cases e5
    by_cases hok : shrOkB t l = true
    · obtain ⟨u1, u2, u3, u4⟩ := upTo_small hok
      obtain ⟨ht, hll, hw⟩ := shrOk_parts hok
      have HU2 := Hid.intro u2
      have HWB := Hid.intro hw
      have hsb := sum_bound hw
      rw [hok]
      rw [u1] at X4 ⊢
      have HXW : Hid ((upToL t l).all wtB = true) := by
        show _ = _
        rw [List.all_eq_true]
        intro x hx
        obtain ⟨i, hi, rfl⟩ := List.getElem_of_mem hx
        rw [u1] at hi
        have h1 := u2 i hi
        have h2 := wt_get hw hi
        have e : (upToL t l).getD i 0 = (upToL t l)[i] := by simp [List.getD, u1, hi]
        rw [e] at h1
        simp only [wtB, decide_eq_true_eq]
        omega
      have hxb := sum_bound HXW.out
      rw [u1] at hxb
      have HU1 := Hid.intro u1
      have HU4 := Hid.intro u4
      generalize upToN t l = y at hyy u3 HU4
      generalize upToL t l = x at X4 HU2 HU1 HU4 HXW u3 hxb
      clear u1 u2 u4 hw
      go_wp2_with fail
      go_loopw [9] (fun s9 W => ∃ i n : Nat, i ≤ l.length ∧ s9 = .int .i64 i ∧ W = w4.drewN n) (fun s9 _ => l.length - (intOf s9).toNat)
      case atStart => exact ⟨0, 0, Nat.zero_le _, rfl, rfl⟩
      case round =>
        obtain ⟨i, nd, hi, rfl, rfl⟩ := hrel
        by_cases hlt : i < l.length
        · obtain ⟨b1, off1, cap1, e1, hc11, hc12, hbl1, xi⟩ := X4.out.get (i := i) (by rw [HU1.out]; exact hlt)
          rw [HU1.out] at e1 hc11
          simp only [Value.slice.injEq, true_and] at e1
          obtain ⟨rfl, rfl⟩ := e1
          obtain ⟨b3, off3, cap3, e3, hc31, hc32, hbl3, wi⟩ := R4.out.get (i := i) hlt
          simp only [Value.slice.injEq, true_and] at e3
          obtain ⟨rfl, rfl⟩ := e3
          unfold maxLen at hc12 hc32
          have hb := HU2.out i hlt
          generalize l.getD i 0 = yi at wi hb
          generalize x.getD i 0 = zi at xi hb
          have h1 : ¬ yi < zi := by omega
          have h2 : decide (yi < zi) = false := decide_eq_false h1
          have h3 : ¬ zi < 0 := by omega
          have h4 : decide (zi < 0) = false := decide_eq_false h3
          go_wp2_with fail
          go_quiet (fail)
          go_wp2
          go_roundw
          case rel => exact ⟨i + 1, nd + nq, by omega, by go_num, rfl⟩
          case measure => simp [intOf]; omega
        · obtain rfl : i = l.length := by omega
          have HP := lawspwSum_any (.slice a2 l.length c2) x (by rw [HU1.out]; omega) HXW.out (w4.drewN nd) X4.out
          have hsum : x.sum + y = t := u3
          have HT := Hid.intro u3
          generalize x.sum = sx at HP hsum hxb HT
          clear u3
          go_wp2_with fail
          refine HP.mono ?_
          rintro e w9 ⟨rfl, e9⟩
          cases e9
          by_cases hy0 : y = 0
          · subst hy0
            have hst : sx = t := by omega
            have hstb : (sx + 0 == t) = true := by simp [hst]
            go_wp2_with fail
            refine (pwOk_any _).mono ?_
            rintro e w9 ⟨rfl, e9⟩
            cases e9
            go_wp2
            go_ret
            exact ⟨rfl, k_drewN K4.out nd⟩
          · have hyb : (y == 0) = false := by simpa using hy0
            have hst2 : (sx + y == t) = true := by simp [hsum]
            have hxl := HU4.out hy0
            have X5 : Hid (IntsAt (w4.drewN nd) (.slice a2 l.length c2) l) := by have := X4.out; rw [hxl] at this; exact this
            have R5 : Hid (IntsAt (w4.drewN nd) (.slice aa l.length cc) l) := R4.out
            clear hxl
            go_wp2_with fail
            refine (pwInts_any _ _ l _ X5.out R5.out).mono ?_
            rintro e w10 ⟨rfl, n10, e10⟩
            have K10 : Hid (Below w.heap.size w w10) := by rw [e10]; exact k_drewN (k_drewN K4.out nd) n10
            clear e10
            go_wp2_with fail
            refine (pwOk_any _).mono ?_
            rintro e w9 ⟨rfl, e9⟩
            cases e9
            go_wp2
            go_ret
            exact ⟨rfl, K10.out⟩
    · have hok' := eq_false_of_ne_true hok
      obtain ⟨e1, e2⟩ := upTo_bad hok'
      rw [hok', e1, e2]
      go_wp2_with fail
      refine (pwOk_any _).mono ?_
      rintro e w9 ⟨rfl, e9⟩
      cases e9
      go_wp2
      go_ret
      exact ⟨rfl, K4.out⟩
end Go.Proofs.Ytgcobajekffmoad
