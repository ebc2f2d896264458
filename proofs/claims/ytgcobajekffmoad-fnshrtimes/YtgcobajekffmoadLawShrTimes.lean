/-
  PROVED HERE: the law FnShrTimes returns true at every code that lies in memory.
-/
import Derived.Test.YtgcobajekffmoadDrawShr
import Derived.Test.YtgcobajekffmoadShareI
import Derived.Test.YtgcobajekffmoadShareS2
import Derived.Test.YtgcobajekffmoadShareTh3
import Derived.Test.YtgcobajekffmoadPwInts
import Derived.Test.YtgcobajekffmoadPwOk
namespace Go.Proofs.Ytgcobajekffmoad
open Go.RowKit

theorem rep_next (k : Nat) : List.replicate (k + 1) (0 : Int) = List.replicate k 0 ++ [0] := List.replicate_succ'
theorem thr_take {l : List Int} {k : Nat} (h : k < l.length) : (thr l).take (k + 1) = (thr l).take k ++ [3 * l.getD k 0] := by
  rw [take_next (by rw [thr_len]; exact h), thr_get h]

set_option maxRecDepth 100000 in
set_option maxHeartbeats 8000000 in
theorem lawShrTimes (a : Option Addr) (len cap : Nat) (w : World) (h : IsCode w a len cap) :
    Calls Try.prog 4 #[.slice a len cap] w fun e w' => e = .returned (.bool true) ∧ Below w.heap.size w w' := by
  obtain ⟨i0, hi0, hz0, hz1, hz2⟩ := info_parts infoI4
  have hlen : len ≤ 9223372036854775807 := by have h1 := h.1; have h2 := h.2.1; unfold maxLen at h2; omega
  have HC := Hid.intro h
  clear h
  by_cases hbig : (1048576 : Int) < (len : Int)
  · go_enter Try.func4, Try.ntmps4
    go_wp2
    go_ret
    exact ⟨rfl, Below.refl _ _⟩
  · go_enter Try.func4, Try.ntmps4
    go_wp2_with fail
    refine (drawShrShare_any _ _ _ _ HC.out).mono ?_
    rintro e w1 ⟨t, aa, cc, l, rfl, ht1, ht2, hl, hlb, hr1, hb1⟩
    have R1 := Hid.intro hr1.at
    have K1 := Hid.intro hb1
    have HLB := Hid.intro hlb
    have HI := Hid.intro (fun v q W => implShrShare t v q W)
    have HS := Hid.intro (fun W => specShrShare t (.slice aa l.length cc) l W)
    have HO := Hid.intro (fun v q W => specShrOk t v q W)
    have HP := Hid.intro (fun W => implShrOk t (.slice aa l.length cc) l W)
    clear hr1 hb1 hlb
    go_wp2_with fail
    refine (HI.out _ _ _ R1.out).mono ?_
    rintro e w2 ⟨v2, rfl, hr, hb⟩
    obtain ⟨a2, c2, rfl⟩ := hr.form
    have X2 := Hid.intro hr.at
    have R2 := Hid.intro (R1.out.kept hb)
    have K2 := Hid.intro (k_trans K1.out hb)
    clear hr hb R1 K1
    go_wp2_with fail
    refine (HS.out _ R2.out).mono ?_
    rintro e w3 ⟨v3, rfl, hr, hb⟩
    obtain ⟨a3, c3, rfl⟩ := hr.form
    have Y3 := Hid.intro hr.at
    have X3 := Hid.intro (X2.out.kept hb)
    have R3 := Hid.intro (R2.out.kept hb)
    have K3 := Hid.intro (k_trans K2.out hb)
    clear hr hb R2 K2 X2
    go_wp2_with fail
    refine (pwInts_any _ _ (shareL t l) _ X3.out Y3.out).mono ?_
    rintro e w4 ⟨rfl, n4, e4⟩
    have X4 : Hid (IntsAt w4 (.slice a2 (shareL t l).length c2) (shareL t l)) := by rw [e4]; exact X3.out
    have R4 : Hid (IntsAt w4 (.slice aa l.length cc) l) := by rw [e4]; exact R3.out
    have K4 : Hid (Below w.heap.size w w4) := by rw [e4]; exact k_drewN K3.out n4
    clear e4 X3 R3 K3 Y3
    go_wp2_with fail
    have Q0 := Hid.intro (Q2.start w4)
    go_loopw [6, 7, 8] (fun s6 s7 s8 W => ∃ k : Nat, k ≤ l.length ∧ s8 = .int .i64 k ∧ Hid (Q2 w4 W s6 s7 ((thr l).take k) (List.replicate k 0))) (fun _ _ s8 _ => l.length - (intOf s8).toNat)
    case atStart => exact ⟨0, Nat.zero_le _, rfl, Q0⟩
    case round =>
      clear Q0
      obtain ⟨k, hk, rfl, HQ⟩ := hrel
      have l6 : ((thr l).take k).length = k := by rw [List.length_take, thr_len]; omega
      have l7 : (List.replicate k (0 : Int)).length = k := by simp
      obtain ⟨a6, c6, f6⟩ := (RowI.of_owns HQ.out.o6).form
      obtain ⟨a7, c7, f7⟩ := (RowI.of_owns HQ.out.o7).form
      rw [l6] at f6
      rw [l7] at f7
      subst f6
      subst f7
      have HL6 := Hid.intro l6
      have HL7 := Hid.intro l7
      clear l6 l7
      by_cases hlt : k < l.length
      · obtain ⟨b1, off1, cap1, e1, hc11, hc12, hbl1, xi⟩ := (R4.out.kept HQ.out.below).get (i := k) hlt
        simp only [Value.slice.injEq, true_and] at e1
        obtain ⟨rfl, rfl⟩ := e1
        unfold maxLen at hc12
        have hlk := HLB.out (l.getD k 0) (by simp [List.getD, hlt])
        have hmem := HQ.out.below.size
        have N6 := Hid.intro (thr_take hlt)
        obtain ⟨x, hxe⟩ : ∃ x, x = l.getD k 0 := ⟨_, rfl⟩
        rw [← hxe] at xi hlk N6
        clear hxe
        go_wp2_with (at_builtin; refine wpList_append_own_at _ rfl _ _ 23 rfl w4.heap.size 3 i0 (.int .i64 0) 1 8 Try.underlying23 hi0 hz0 hz1 hz2 rfl (by decide) _ k _ rfl (by have := (HQ.out.alloc (.cells #[.int .i64 (3 * x)] 3)).o6; rw [HL6.out] at this; exact this) ⟨wr.heap.size, 0, none⟩ 1 1 [.int .i64 (3 * x)] rfl rfl (cell_one_new _ _ _) ?c2 ?c3 ?c4 ?c5 ?_)
        case c2 => intro v hv; simp at hv; subst hv; rfl
        case c3 => unfold maxLen; omega
        case c4 => omega
        case c5 => simp; omega
        intro v6 w6 ho6 hg6 _ hat6
        have HQ6 := Hid.intro ((HQ.out.alloc (.cells #[.int .i64 (3 * x)] 3)).app6 (by rw [HL6.out, List.map_take]; exact ho6) hg6 (by simpa using hat6))
        rw [← N6.out] at HQ6
        have l6 : ((thr l).take (k + 1)).length = k + 1 := by rw [List.length_take, thr_len]; omega
        obtain ⟨a6', c6', f6⟩ := (RowI.of_owns HQ6.out.o6).form
        rw [l6] at f6
        subst f6
        have hmem6 := HQ6.out.below.size
        clear ho6 hg6 hat6 HQ l6 hmem xi hbl1 hc11 hc12
        go_wp2_with (at_builtin; refine wpList_append_own_at _ rfl _ _ 23 rfl w4.heap.size 3 i0 (.int .i64 0) 1 8 Try.underlying23 hi0 hz0 hz1 hz2 rfl (by decide) _ k _ rfl (by have := (HQ6.out.alloc (.cells #[.int .i64 0] 3)).o7; rw [HL7.out] at this; exact this) ⟨w6.heap.size, 0, none⟩ 1 1 [.int .i64 0] rfl rfl (cell_one_new _ _ _) ?d2 ?d3 ?d4 ?d5 ?_)
        case d2 => intro v hv; simp at hv; subst hv; rfl
        case d3 => unfold maxLen; omega
        case d4 => omega
        case d5 => simp; omega
        intro v7 w7 ho7 hg7 _ hat7
        have HQ7 := Hid.intro ((HQ6.out.alloc (.cells #[.int .i64 0] 3)).app7 (x := 0) (by rw [HL7.out]; first | exact ho7 | (rw [List.map_replicate]; exact ho7)) hg7 (by simpa using hat7))
        rw [← rep_next] at HQ7
        have l7 : (List.replicate (k + 1) (0 : Int)).length = k + 1 := by simp
        obtain ⟨a7', c7', f7⟩ := (RowI.of_owns HQ7.out.o7).form
        rw [l7] at f7
        subst f7
        clear ho7 hg7 hat7 HQ6 l7 hmem6
        go_wp2
        go_roundw
        case rel => exact ⟨k + 1, by omega, by go_num, HQ7⟩
        case measure => simp [intOf]; omega
      · obtain rfl : k = l.length := by omega
        have T6 : Hid (IntsAt wr (.slice a6 l.length c6) (thr l)) := by
          have := (RowI.of_owns HQ.out.o6).at
          rw [← thr_len l, List.take_length] at this
          rw [thr_len] at this
          exact this
        have T7 := Hid.intro (RowI.of_owns HQ.out.o7).at
        have K5 := Hid.intro (k_trans K4.out HQ.out.below)
        have X5 := Hid.intro (X4.out.kept HQ.out.below)
        have R5 := Hid.intro (R4.out.kept HQ.out.below)
        clear HQ X4 R4 K4 HL6 HL7
        go_wp2_with fail
        refine (HO.out _ _ _ T6.out).mono ?_
        rintro e w5 ⟨rfl, e5⟩
        cases e5
        by_cases hok3 : shrOkB t (thr l) = true
        · rw [hok3]
          go_wp2_with fail
          refine (HO.out _ _ _ R5.out).mono ?_
          rintro e w5 ⟨rfl, e5⟩
          cases e5
          by_cases hok : shrOkB t l = true
          · have HTH := Hid.intro (share_thr hok hok3)
            have HZO := zeros_ok hok
            have HZA := Hid.intro (fun i k => zeros_alike HZO (i := i) (k := k))
            have hzl := shareL_len HZO
            rw [List.length_replicate] at hzl
            have HZS := Hid.intro (fun i => shareL_small (t := t) (l := List.replicate l.length 0) i)
            rw [hok]
            have HW7 := HI.out (.slice a7 l.length c7) (List.replicate l.length 0) wr T7.out
            go_wp2_with fail
            refine HW7.mono ?_
            rintro e w6 ⟨v6, rfl, hr, hb⟩
            obtain ⟨a8, c8, rfl⟩ := hr.form
            have Z6 := Hid.intro hr.at
            have T8 := Hid.intro (T6.out.kept hb)
            have X6 := Hid.intro (X5.out.kept hb)
            have K6 := Hid.intro (k_trans K5.out hb)
            rw [hzl] at Z6 HZS ⊢
            have HZL := Hid.intro hzl
            generalize shareL t (List.replicate l.length 0) = y at Z6 HZA HZS HZL
            clear hr hb X5 K5 HW7 hzl HZO
            go_wp2_with fail
            go_loopw [10] (fun s10 W => ∃ i n : Nat, 1 ≤ i ∧ i ≤ l.length + 1 ∧ s10 = .int .i64 i ∧ W = w6.drewN n) (fun s10 _ => l.length - (intOf s10).toNat)
            case atStart => exact ⟨1, 0, Nat.le_refl _, by omega, rfl, rfl⟩
            case round =>
              obtain ⟨i, nd, hi1, hi2, rfl, rfl⟩ := hrel
              by_cases hlt : i < l.length
              · obtain ⟨m, rfl⟩ : ∃ m, i = m + 1 := ⟨i - 1, by omega⟩
                obtain ⟨b1, off1, cap1, e1, hc11, hc12, hbl1, yi⟩ := Z6.out.get (i := m + 1) (by rw [HZL.out]; exact hlt)
                obtain ⟨b2, off2, cap2, e2, _, _, _, ym⟩ := Z6.out.get (i := m) (by rw [HZL.out]; omega)
                obtain ⟨b3, off3, cap3, e3, _, _, _, y0⟩ := Z6.out.get (i := 0) (by rw [HZL.out]; omega)
                rw [HZL.out] at e1 e2 e3 hc11
                simp only [Value.slice.injEq, true_and] at e1
                obtain ⟨rfl, rfl⟩ := e1
                simp only [Value.slice.injEq, Option.some.injEq, Addr.mk.injEq, and_true, true_and] at e2 e3
                obtain ⟨⟨q1, q2⟩, q3⟩ := e2
                subst q1
                subst q2
                obtain ⟨⟨q4, q5⟩, q6⟩ := e3
                subst q4
                subst q5
                clear q3 q6
                rw [Nat.add_zero] at y0
                unfold maxLen at hc12
                have h1 := (HZA.out m (m + 1) (by omega) hlt).1
                have h2 := (HZA.out 0 (m + 1) (by omega) hlt).2
                have h3 := HZS.out (m + 1) hlt
                have h4 := HZS.out 0 (by omega)
                generalize y.getD (m + 1) 0 = zi at yi h1 h2 h3
                generalize y.getD m 0 = zm at ym h1
                generalize y.getD 0 0 = z0 at y0 h2 h4
                have t1 : ¬ zm < zi := by omega
                have t2 : decide (zm < zi) = false := decide_eq_false t1
                have t3 : ¬ zi < z0 - 1 := by omega
                have t4 : decide (zi < z0 - 1) = false := decide_eq_false t3
                have p1 : (0 : Int) ≤ (m : Int) + 1 := by omega
                have p2 : (m : Int) + 1 < (l.length : Int) := by omega
                have p3 : (m : Int) < (l.length : Int) := by omega
                have p4 : ((m : Int) + 1).toNat = m + 1 := by omega
                have p5 : (0 : Int) < (l.length : Int) := by omega
                have p6 : IntKind.i64.wrap (m : Int) = (m : Int) := by rw [IntKind.wrap_i64]; omega
                have p7 : IntKind.i64.wrap (z0 - 1) = z0 - 1 := by rw [IntKind.wrap_i64]; omega
                go_wp2_with fail
                go_quiet (fail)
                go_wp2
                go_roundw
                case rel => exact ⟨m + 2, nd + nq, by omega, by omega, by go_num, rfl⟩
                case measure => simp [intOf]; omega
              · have hnl : ¬ (i : Int) < (l.length : Int) := by omega
                have HW6 := HI.out (.slice a6 l.length c6) (thr l) (w6.drewN nd) T8.out
                rw [HTH.out] at HW6
                have X7 : Hid (IntsAt (w6.drewN nd) (.slice a2 (shareL t l).length c2) (shareL t l)) := X6.out
                have K7 : Hid (Below w.heap.size w (w6.drewN nd)) := k_drewN K6.out nd
                go_wp2_with fail
                refine HW6.mono ?_
                rintro e w9 ⟨v9, rfl, hr, hb⟩
                obtain ⟨a9, c9, rfl⟩ := hr.form
                have Y9 := Hid.intro hr.at
                have X9 := Hid.intro (X7.out.kept hb)
                have K9 := Hid.intro (k_trans K7.out hb)
                clear hr hb HW6
                go_wp2_with fail
                refine (pwInts_any _ _ (shareL t l) _ X9.out Y9.out).mono ?_
                rintro e w10 ⟨rfl, n10, e10⟩
                have K10 : Hid (Below w.heap.size w w10) := by rw [e10]; exact k_drewN K9.out n10
                clear e10
                go_wp2_with fail
                refine (pwOk_any _).mono ?_
                rintro e w11 ⟨rfl, e11⟩
                cases e11
                go_wp2
                go_ret
                exact ⟨rfl, K10.out⟩
          · have hok' := eq_false_of_ne_true hok
            rw [hok']
            rw [hok'] at HP
            have HOl := HO.out (.slice aa l.length cc) l wr R5.out
            rw [hok'] at HOl
            go_wp2_with fail
            refine (HP.out _ R5.out).mono ?_
            rintro e w5 ⟨rfl, e5⟩
            cases e5
            go_wp2_with fail
            refine HOl.mono ?_
            rintro e w5 ⟨rfl, e5⟩
            cases e5
            go_wp2_with fail
            refine (pwOk_any _).mono ?_
            rintro e w11 ⟨rfl, e11⟩
            cases e11
            go_wp2
            go_ret
            exact ⟨rfl, K5.out⟩
        · have hok3' := eq_false_of_ne_true hok3
          rw [hok3']
          have hbb : (shrOkB t l == shrOkB t l) = true := by simp
          go_wp2_with fail
          refine (HP.out _ R5.out).mono ?_
          rintro e w5 ⟨rfl, e5⟩
          cases e5
          go_wp2_with fail
          refine (HO.out _ _ _ R5.out).mono ?_
          rintro e w5 ⟨rfl, e5⟩
          cases e5
          go_wp2_with fail
          refine (pwOk_any _).mono ?_
          rintro e w11 ⟨rfl, e11⟩
          cases e11
          go_wp2
          go_ret
          exact ⟨rfl, K5.out⟩
end Go.Proofs.Ytgcobajekffmoad
