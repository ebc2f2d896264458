/-
  PROVED HERE: the law FnShrOrder returns true at every code that lies in memory.
-/
import Derived.Test.YtgcobajekffmoadDrawShr
import Derived.Test.YtgcobajekffmoadShareI
import Derived.Test.YtgcobajekffmoadShareS2
import Derived.Test.YtgcobajekffmoadShareTh2
import Derived.Test.YtgcobajekffmoadPwInts
import Derived.Test.YtgcobajekffmoadPwOk
namespace Go.Proofs.Ytgcobajekffmoad
open Go.RowKit

theorem wts_lt {l : List Int} {i k : Nat} (hw : l.all wtB = true) (hi : i < l.length) (hk : k < l.length) (h : l.getD k 0 < l.getD i 0) : (wts l).getD k 0 < (wts l).getD i 0 := by
  by_cases hz : l.sum = 0
  · exfalso
    have h1 := sumTo_bound hw i (by omega)
    have h2 := wt_get hw hk
    have h3 := sumTo_succ hi
    have h4 : sumTo l (i + 1) ≤ l.sum := sumTo_le_sum hw (i + 1) (by omega)
    omega
  · rw [wts, if_neg hz]; exact h
where
  sumTo_le_sum {l : List Int} (hw : l.all wtB = true) (k : Nat) (hk : k ≤ l.length) : sumTo l k ≤ l.sum := by
    have e : l.sum = sumTo l k + (l.drop k).sum := by rw [sumTo, ← List.sum_append, List.take_append_drop]
    have : 0 ≤ (l.drop k).sum := (sum_bound (l := l.drop k) (by
      rw [List.all_eq_true] at hw ⊢
      exact fun x hx => hw x (List.mem_of_mem_drop hx))).1
    omega
theorem wts_eq {l : List Int} {i k : Nat} (hi : i < l.length) (hk : k < l.length) (h : l.getD i 0 = l.getD k 0) : (wts l).getD i 0 = (wts l).getD k 0 := by
  by_cases hz : l.sum = 0
  · rw [wts, if_pos hz]
    simp [List.getD, hi, hk]
  · rw [wts, if_neg hz]; exact h

set_option maxRecDepth 100000 in
set_option maxHeartbeats 8000000 in
theorem lawShrOrder (a : Option Addr) (len cap : Nat) (w : World) (h : IsCode w a len cap) :
    Calls Try.prog 3 #[.slice a len cap] w fun e w' => e = .returned (.bool true) ∧ Below w.heap.size w w' := by
  have hlen : len ≤ 9223372036854775807 := by have h1 := h.1; have h2 := h.2.1; unfold maxLen at h2; omega
  have HC := Hid.intro h
  clear h
  by_cases hbig : (1048576 : Int) < (len : Int)
  · go_enter Try.func3, Try.ntmps3
    go_wp2
    go_ret
    exact ⟨rfl, Below.refl _ _⟩
  · go_enter Try.func3, Try.ntmps3
    go_wp2_with fail
    refine (drawShrShare_any _ _ _ _ HC.out).mono ?_
    rintro e w1 ⟨t, aa, cc, l, rfl, ht1, ht2, hl, _, hr1, hb1⟩
    have R1 := Hid.intro hr1.at
    have K1 := Hid.intro hb1
    have HI := Hid.intro (fun W => implShrShare t (.slice aa l.length cc) l W)
    have HS := Hid.intro (fun W => specShrShare t (.slice aa l.length cc) l W)
    clear hr1 hb1
    go_wp2_with fail
    refine (HI.out _ R1.out).mono ?_
    rintro e w2 ⟨v2, rfl, hr, hb⟩
    obtain ⟨a2, c2, rfl⟩ := hr.form
    have X2 := Hid.intro hr.at
    have R2 := Hid.intro (R1.out.kept hb)
    have K2 := Hid.intro (k_trans K1.out hb)
    clear hr hb R1 K1
    go_wp2_with fail
    refine (HS.out _ R2.out).mono ?_
    rintro e w3 ⟨v3, rfl, hr, hb⟩
    obtain ⟨a3, c3, rfl⟩ := hr.form
    have Y3 := Hid.intro hr.at
    have X3 := Hid.intro (X2.out.kept hb)
    have R3 := Hid.intro (R2.out.kept hb)
    have K3 := Hid.intro (k_trans K2.out hb)
    clear hr hb R2 K2 X2
    go_wp2_with fail
    refine (pwInts_any _ _ (shareL t l) _ X3.out Y3.out).mono ?_
    rintro e w4 ⟨rfl, n4, e4⟩
    have X4 : Hid (IntsAt w4 (.slice a2 (shareL t l).length c2) (shareL t l)) := by rw [e4]; exact X3.out
    have R4 : Hid (IntsAt w4 (.slice aa l.length cc) l) := by rw [e4]; exact R3.out
    have K4 : Hid (Below w.heap.size w w4) := by rw [e4]; exact k_drewN K3.out n4
    clear e4 X3 R3 K3 Y3
    by_cases hok : shrOkB t l = true
    · have hsl := shareL_len hok
      have HSM := Hid.intro (fun i hi k hk => share_more hok (i := i) (k := k) hi hk)
      have HAL := Hid.intro (fun i k => share_alike hok (i := i) (k := k))
      have HWB := Hid.intro (shrOk_parts hok).2.2
      have HSB := Hid.intro (fun i => shareL_small (t := t) (l := l) i)
      rw [hsl] at X4 HSB ⊢
      have HSL := Hid.intro hsl
      generalize shareL t l = x at X4 HSM HAL HSB HSL
      clear hsl
      go_wp2_with fail
      go_loopw [6] (fun s6 W => ∃ i n : Nat, i ≤ l.length ∧ s6 = .int .i64 i ∧ W = w4.drewN n) (fun s6 _ => l.length - (intOf s6).toNat)
      case atStart => exact ⟨0, 0, Nat.zero_le _, rfl, rfl⟩
      case round =>
        obtain ⟨i, nd, hi, rfl, rfl⟩ := hrel
        by_cases hlt : i < l.length
        · have hltz : (i : Int) < (l.length : Int) := by omega
          go_wp2_with fail
          go_loopw [7] (fun s7 W => ∃ k n : Nat, k ≤ l.length ∧ s7 = .int .i64 k ∧ W = w4.drewN n) (fun s7 _ => l.length - (intOf s7).toNat)
          case atStart => exact ⟨0, nd, Nat.zero_le _, rfl, rfl⟩
          case round =>
            obtain ⟨k, nd2, hk, rfl, rfl⟩ := hrel
            by_cases hlk : k < l.length
            · have hlkz : (k : Int) < (l.length : Int) := by omega
              obtain ⟨b1, off1, cap1, e1, hc11, hc12, hbl1, xi⟩ := X4.out.get (i := i) (by rw [HSL.out]; exact hlt)
              obtain ⟨b2, off2, cap2, e2, _, _, _, xk⟩ := X4.out.get (i := k) (by rw [HSL.out]; exact hlk)
              rw [HSL.out] at e1 e2 hc11
              simp only [Value.slice.injEq, true_and] at e1
              obtain ⟨rfl, rfl⟩ := e1
              simp only [Value.slice.injEq, Option.some.injEq, Addr.mk.injEq, and_true, true_and] at e2
              obtain ⟨⟨q1, q2⟩, q3⟩ := e2
              subst q1
              subst q2
              obtain ⟨b3, off3, cap3, e3, hc31, hc32, hbl3, wi⟩ := R4.out.get (i := i) hlt
              obtain ⟨b5, off5, cap5, e5, _, _, _, wk⟩ := R4.out.get (i := k) hlk
              simp only [Value.slice.injEq, true_and] at e3
              obtain ⟨rfl, rfl⟩ := e3
              simp only [Value.slice.injEq, Option.some.injEq, Addr.mk.injEq, and_true, true_and] at e5
              obtain ⟨⟨q4, q5⟩, q6⟩ := e5
              subst q4
              subst q5
              clear q3 q6
              unfold maxLen at hc12 hc32
              have sbi := HSB.out i hlt
              have sbk := HSB.out k hlk
              by_cases hgt : l.getD k 0 < l.getD i 0
              · have hxx := HSM.out i hlt k hlk (wts_lt HWB.out hlt hlk hgt)
                have hne : (l.getD i 0 == l.getD k 0) = false := by simp only [beq_eq_false_iff_ne]; omega
                generalize l.getD k 0 = yk at wk hgt hne
                generalize l.getD i 0 = yi at wi hgt hne
                generalize x.getD k 0 = zk at xk hxx sbk
                generalize x.getD i 0 = zi at xi hxx sbi
                have hx1 : ¬ zi < zk := by omega
                have hx2 : decide (zi < zk) = false := decide_eq_false hx1
                have hg2 : decide (yk < yi) = true := decide_eq_true hgt
                go_wp2_with fail
                go_quiet (fail)
                go_wp2
                go_roundw
                case rel => exact ⟨k + 1, nd2 + nq, by omega, by go_num, rfl⟩
                case measure => simp [intOf]; omega
              · by_cases heq : l.getD i 0 = l.getD k 0
                · have hne : (l.getD i 0 == l.getD k 0) = true := by simp only [beq_iff_eq]; exact heq
                  by_cases hik : i < k
                  · have hxx := HAL.out i k hik hlk (wts_eq hlt hlk heq)
                    generalize l.getD k 0 = yk at wk hgt hne heq
                    generalize l.getD i 0 = yi at wi hgt hne heq
                    subst heq
                    generalize x.getD k 0 = zk at xk hxx sbk
                    generalize x.getD i 0 = zi at xi hxx sbi
                    have hx1 : ¬ zi < zk := by omega
                    have hx2 : decide (zi < zk) = false := decide_eq_false hx1
                    have hx3 : ¬ zk + 1 < zi := by omega
                    have hx4 : decide (zk + 1 < zi) = false := decide_eq_false hx3
                    have hg2 : decide (yi < yi) = false := decide_eq_false hgt
                    have hikz : (i : Int) < (k : Int) := by omega
                    have hik2 : decide ((i : Int) < (k : Int)) = true := decide_eq_true hikz
                    go_wp2_with fail
                    go_quiet (fail)
                    go_wp2
                    go_roundw
                    case rel => exact ⟨k + 1, nd2 + nq, by omega, by go_num, rfl⟩
                    case measure => simp [intOf]; omega
                  · generalize l.getD k 0 = yk at wk hgt hne heq
                    generalize l.getD i 0 = yi at wi hgt hne heq
                    subst heq
                    generalize x.getD k 0 = zk at xk sbk
                    generalize x.getD i 0 = zi at xi sbi
                    have hg2 : decide (yi < yi) = false := decide_eq_false hgt
                    have hikz : ¬ (i : Int) < (k : Int) := by omega
                    have hik2 : decide ((i : Int) < (k : Int)) = false := decide_eq_false hikz
                    go_wp2_with fail
                    go_quiet (fail)
                    go_wp2
                    go_roundw
                    case rel => exact ⟨k + 1, nd2 + nq, by omega, by go_num, rfl⟩
                    case measure => simp [intOf]; omega
                · have hne : (l.getD i 0 == l.getD k 0) = false := by simp only [beq_eq_false_iff_ne]; exact heq
                  generalize l.getD k 0 = yk at wk hgt hne
                  generalize l.getD i 0 = yi at wi hgt hne
                  generalize x.getD k 0 = zk at xk sbk
                  generalize x.getD i 0 = zi at xi sbi
                  have hg2 : decide (yk < yi) = false := decide_eq_false hgt
                  clear heq
                  go_wp2_with fail
                  go_quiet (fail)
                  go_wp2
                  go_roundw
                  case rel => exact ⟨k + 1, nd2 + nq, by omega, by go_num, rfl⟩
                  case measure => simp [intOf]; omega
            · obtain rfl : k = l.length := by omega
              go_wp2
              go_roundw
              case rel => exact ⟨i + 1, nd2, by omega, by go_num, rfl⟩
              case measure => simp [intOf]; omega
        · obtain rfl : i = l.length := by omega
          go_wp2_with fail
          refine (pwOk_any _).mono ?_
          rintro e w9 ⟨rfl, e9⟩
          cases e9
          go_wp2
          go_ret
          exact ⟨rfl, k_drewN K4.out nd⟩
    · have hsl := shareL_none (t := t) (l := l) (by simp [hok])
      rw [hsl]
      rw [hsl] at X4
      go_wp2_with fail
      go_loopw [6] (fun s6 W => s6 = .int .i64 0 ∧ W = w4) (fun _ _ => 0)
      case atStart => exact ⟨rfl, rfl⟩
      case round =>
        obtain ⟨rfl, rfl⟩ := hrel
        go_wp2_with fail
        refine (pwOk_any _).mono ?_
        rintro e w9 ⟨rfl, e9⟩
        cases e9
        go_wp2
        go_ret
        exact ⟨rfl, K4.out⟩
end Go.Proofs.Ytgcobajekffmoad
