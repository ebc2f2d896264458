/-
  PROVED HERE: the law FnQryIn returns true at every code that lies in memory.
-/
import Derived.Test.YtcbibdhlkdcmiaiQrI
import Derived.Test.YtcbibdhlkdcmiaiQrS
import Derived.Test.YtcbibdhlkdcmiaiQrAI
import Derived.Test.YtcbibdhlkdcmiaiQrAS
import Derived.Test.YtcbibdhlkdcmiaiQaTh
import Derived.Test.YtcbibdhlkdcmiaiDrawQI
import Derived.Test.YtcbibdhlkdcmiaiPwOk
import Derived.Test.YtcbibdhlkdcmiaiQuietB
namespace Go.Proofs.Ytcbibdhlkdcmiai
open Go.RowKit Go.BigFrame

theorem W_smallQ {a : Int} (h : 0 ≤ a ∧ a ≤ 1000) : wrap64 a = a := by unfold wrap64; omega
theorem fourL {w : World} {g : Nat} {x0 x1 x2 x3 : Value} {t : TypeId} (h : w.heap[g]? = some (.cells #[x0, x1, x2, x3] t)) : w.cell? ⟨g, 0, none⟩ = some x0 ∧ w.cell? ⟨g, 1, none⟩ = some x1 ∧ w.cell? ⟨g, 2, none⟩ = some x2 ∧ w.cell? ⟨g, 3, none⟩ = some x3 := ⟨cellB h, cellB h, cellB h, cellB h⟩
def bitQ (X Y W H : Int) (i j : Nat) : Nat := if qinB X Y W H ((i : Int) - 1) ((j : Int) - 1) = true then 1 else 0
theorem bit_at {x y w h : Nat} (i j : Nat) : bitQ x y w h i j = inI (x + 1) w i * inI (y + 1) h j := by
  unfold bitQ qinB amongB inI
  by_cases h1 : x + 1 ≤ i ∧ i < x + 1 + w
  · by_cases h2 : y + 1 ≤ j ∧ j < y + 1 + h
    · rw [if_pos h1, if_pos h2, if_pos (by simp; omega)]
    · rw [if_pos h1, if_neg h2, if_neg (by simp; omega)]
  · rw [if_neg h1, if_neg (by simp; omega), Nat.zero_mul]
theorem bits_all {X Y W H : Int} (h1 : 0 ≤ X ∧ X ≤ 4) (h2 : 0 ≤ Y ∧ Y ≤ 4) (h3 : 0 ≤ W ∧ W ≤ 4) (h4 : 0 ≤ H ∧ H ≤ 4) : ((sumR (fun i => sumR (bitQ X Y W H i) 13) 13 : Nat) : Int) = W * H := by
  obtain ⟨x, rfl⟩ := Int.eq_ofNat_of_zero_le h1.1
  obtain ⟨y, rfl⟩ := Int.eq_ofNat_of_zero_le h2.1
  obtain ⟨w, rfl⟩ := Int.eq_ofNat_of_zero_le h3.1
  obtain ⟨h, rfl⟩ := Int.eq_ofNat_of_zero_le h4.1
  have e1 : ∀ i, sumR (bitQ x y w h i) 13 = inI (x + 1) w i * h := fun i => by
    rw [sumR_eq (g := fun j => inI (x + 1) w i * inI (y + 1) h j) (fun j _ => bit_at i j), sumR_mul, sumR_in]
    congr 1
    omega
  rw [sumR_eq (fun i _ => e1 i), sumR_mul', sumR_in]
  rw [show min 13 (x + 1 + w) - min 13 (x + 1) = w by omega, Int.natCast_mul]
theorem bits_le (X Y W H : Int) (k : Nat) : ∀ j, sumR (bitQ X Y W H k) j ≤ j
  | 0 => Nat.le_refl _
  | j + 1 => by
    have := bits_le X Y W H k j
    rw [sumR]
    unfold bitQ at this ⊢
    split <;> omega
theorem bits_le2 (X Y W H : Int) : ∀ k, sumR (fun i => sumR (bitQ X Y W H i) 13) k ≤ 13 * k
  | 0 => Nat.le_refl _
  | k + 1 => by
    have h1 := bits_le2 X Y W H k
    have h2 := bits_le X Y W H k 13
    rw [sumR]
    omega
set_option maxRecDepth 100000 in
set_option maxHeartbeats 4000000 in
theorem lawQI_walk (A : Option Addr) (len cap : Nat) (hlen : len ≤ 1048576) (w : World) (h : IsCode w A len cap) :
    Calls Try.prog 4 #[.slice A len cap] w fun e w' => e = .returned (.bool true) ∧ Below w.heap.size w w' := by
  have hl : ¬ (1048576 : Int) < (len : Int) := by omega
  have hmx : Try.prog.follows .mixedOrders = true := by kernel_rfl
  have HD := Hid.intro h
  clear h
  go_enter Try.func4, Try.ntmps4
  go_wp2_with fail
  refine (drawQryIn_any _ _ _ _ HD.out).mono ?_
  rintro e w1 ⟨X, Y, W, H, p, q, rfl, ⟨hX, hY, hW, hH⟩, hp, hq, hb1⟩
  have KA := k_alloc (Below.refl w1.heap.size w1) (.cells #[.int .i64 X, .int .i64 Y, .int .i64 W, .int .i64 H] 30)
  have HK1 := Hid.intro (k_trans hb1 KA)
  have HC1 := newestB w1 (.cells #[.int .i64 X, .int .i64 Y, .int .i64 W, .int .i64 H] 30)
  have hcw : w1.heap.size < (w1.alloc (.cells #[.int .i64 X, .int .i64 Y, .int .i64 W, .int .i64 H] 30)).heap.size := by simp
  have KI := Hid.intro (fun x y (h1 : I64 x) (h2 : I64 y) W1 => implQryIn X Y W H x y hX hY hW hH h1 h2 W1)
  have KS := Hid.intro (fun W1 => specQryIn X Y W H p q hX hY hW hH (by unfold I64; omega) (by unfold I64; omega) W1)
  have KP := Hid.intro (fun W1 => implQryArea X Y W H W1)
  have KQ := Hid.intro (fun W1 => specQryArea X Y W H W1)
  have KIp := Hid.intro (KI.out p q (by unfold I64; omega) (by unfold I64; omega))
  clear hb1 KA HD
  unfold I64 at hX hY hW hH
  go_upto_region 4 with fail
  generalize w1.alloc (.cells #[.int .i64 X, .int .i64 Y, .int .i64 W, .int .i64 H] 30) = W1 at HK1 HC1 hcw ⊢
  generalize w1.heap.size = qb at HC1 hcw ⊢
  have hne := bw_some W1
  have m0 := bw_cell (a := ⟨qb, 0, none⟩) hcw (cellB (p := 0) HC1)
  have m1 := bw_cell (a := ⟨qb, 1, none⟩) hcw (cellB (p := 1) HC1)
  have m2 := bw_cell (a := ⟨qb, 2, none⟩) hcw (cellB (p := 2) HC1)
  have m3 := bw_cell (a := ⟨qb, 3, none⟩) hcw (cellB (p := 3) HC1)
  have k1 := Hid.intro (fun (b : BW W1) => bw_of (KIp.out b.u))
  have k2 := Hid.intro (fun (b : BW W1) => bw_of (KS.out b.u))
  have k3 := Hid.intro (fun (b : BW W1) => bw_of (KP.out b.u))
  have k4 := Hid.intro (fun (b : BW W1) => bw_of (KQ.out b.u))
  have HC1' := Hid.intro HC1
  generalize qinB X Y W H p q = bb at k1 k2
  have KP2 := KP
  generalize wrap64 (W * H) = ar at k3 k4 KP2
  have hbb : (bb != bb) = false := by simp
  have haa : (ar != ar) = false := by simp
  clear HC1 KIp KS KQ KP2
  refine wp_region_quiet_below hmx (by kernel_rfl) ?_
  repeat (go_big_quiet_step (first | (go_at_call 9; refine k1.out _) | (go_at_call 10; refine k2.out _) | (go_at_call 11; refine k3.out _) | (go_at_call 12; refine k4.out _)))
  refine wpQuiet_nil ?_
  intro W2 hw'
  obtain ⟨⟨Wx, hW2⟩, hw''⟩ := hw'
  subst hw''
  have HK2 := Hid.intro (k_trans HK1.out hW2)
  have HC2 := Hid.intro ((hW2.block qb hcw).trans HC1'.out)
  clear m0 m1 m2 m3 k1 k2 k3 k4 hne hW2 HC1' HK1 hcw hbb haa
  obtain ⟨c0, c1, c2, c3⟩ := fourL HC2.out
  by_cases g1 : X < 0
  case pos => as_aux_lemma =>
    go_wp2_with fail
    refine (pwOk_any _).mono ?_
    rintro e w9 ⟨rfl, rfl⟩
    go_wp2
    go_ret
    exact ⟨rfl, HK2.out⟩
  by_cases g2 : 4 < X
  case pos => as_aux_lemma =>
    go_wp2_with fail
    refine (pwOk_any _).mono ?_
    rintro e w9 ⟨rfl, rfl⟩
    go_wp2
    go_ret
    exact ⟨rfl, HK2.out⟩
  by_cases g3 : Y < 0
  case pos => as_aux_lemma =>
    go_wp2_with fail
    refine (pwOk_any _).mono ?_
    rintro e w9 ⟨rfl, rfl⟩
    go_wp2
    go_ret
    exact ⟨rfl, HK2.out⟩
  by_cases g4 : 4 < Y
  case pos => as_aux_lemma =>
    go_wp2_with fail
    refine (pwOk_any _).mono ?_
    rintro e w9 ⟨rfl, rfl⟩
    go_wp2
    go_ret
    exact ⟨rfl, HK2.out⟩
  by_cases g5 : W < 0
  case pos => as_aux_lemma =>
    go_wp2_with fail
    refine (pwOk_any _).mono ?_
    rintro e w9 ⟨rfl, rfl⟩
    go_wp2
    go_ret
    exact ⟨rfl, HK2.out⟩
  by_cases g6 : 4 < W
  case pos => as_aux_lemma =>
    go_wp2_with fail
    refine (pwOk_any _).mono ?_
    rintro e w9 ⟨rfl, rfl⟩
    go_wp2
    go_ret
    exact ⟨rfl, HK2.out⟩
  by_cases g7 : H < 0
  case pos => as_aux_lemma =>
    go_wp2_with fail
    refine (pwOk_any _).mono ?_
    rintro e w9 ⟨rfl, rfl⟩
    go_wp2
    go_ret
    exact ⟨rfl, HK2.out⟩
  by_cases g8 : 4 < H
  case pos => as_aux_lemma =>
    go_wp2_with fail
    refine (pwOk_any _).mono ?_
    rintro e w9 ⟨rfl, rfl⟩
    go_wp2
    go_ret
    exact ⟨rfl, HK2.out⟩
  have HSum := Hid.intro (bits_all (X := X) (Y := Y) (W := W) (H := H) (by omega) (by omega) (by omega) (by omega))
  have HL1 := Hid.intro (bits_le X Y W H)
  have HL2 := Hid.intro (bits_le2 X Y W H)
  have hwh : wrap64 (W * H) = W * H := W_smallQ ⟨Int.mul_nonneg (by omega) (by omega), Int.le_trans (Int.mul_le_mul (show W ≤ 4 by omega) (show H ≤ 4 by omega) (by omega) (by omega)) (by omega)⟩
  rw [hwh] at KP
  clear hwh
  go_wp2_with fail
  go_loopw [7, 6] (fun s n W3 => ∃ k : Nat, s = .int .i64 ((k : Int) - 1) ∧ k ≤ 13 ∧ n = .int .i64 ((sumR (fun i => sumR (bitQ X Y W H i) 13) k : Nat) : Int) ∧ Hid (Below W2.heap.size W2 W3)) (fun s _ _ => 13 - (intOf s + 1).toNat)
  case atStart => exact ⟨0, rfl, Nat.zero_le _, rfl, Below.refl _ _⟩
  case round =>
    obtain ⟨k, rfl, hk, rfl, HB⟩ := hrel
    have HC3 := Hid.intro ((HB.out.block qb (Array.getElem?_eq_some_iff.1 HC2.out).1).trans HC2.out)
    have hl2 := HL2.out k
    by_cases hk13 : k < 13
    case neg => as_aux_lemma =>
      obtain rfl : k = 13 := by omega
      have hs := HSum.out
      generalize sumR (fun i => sumR (bitQ X Y W H i) 13) 13 = N at hs hl2 ⊢
      generalize W * H = P at hs KP
      subst hs
      clear c0 c1 c2 c3 HL1 HL2 HSum
      obtain ⟨c0, c1, c2, c3⟩ := fourL HC3.out
      have q1 : qinB X Y W H (X - 1) Y = false := by unfold qinB amongB; simp; omega
      have q2 : qinB X Y W H X (Y + H) = false := by unfold qinB amongB; simp; omega
      have K1 := Hid.intro (KI.out (X - 1) Y (by unfold I64; omega) (by unfold I64; omega))
      have K2 := Hid.intro (KI.out X (Y + H) (by unfold I64; omega) (by unfold I64; omega))
      rw [q1] at K1
      rw [q2] at K2
      have hnn : ((N : Int) == (N : Int)) = true := by simp
      clear q1 q2 KI
      go_wp2_with fail
      refine (KP.out _).mono ?_
      rintro e w10 ⟨rfl, hb10⟩
      have HC4 := Hid.intro ((hb10.block qb (Array.getElem?_eq_some_iff.1 HC3.out).1).trans HC3.out)
      have HB4 := Hid.intro (k_trans HB.out hb10)
      clear hb10 c0 c1 c2 c3 KP
      obtain ⟨c0, c1, c2, c3⟩ := fourL HC4.out
      go_wp2_with fail
      refine (K1.out _).mono ?_
      rintro e w11 ⟨rfl, hb11⟩
      have HC5 := Hid.intro ((hb11.block qb (Array.getElem?_eq_some_iff.1 HC4.out).1).trans HC4.out)
      have HB5 := Hid.intro (k_trans HB4.out hb11)
      clear hb11 c0 c1 c2 c3 K1
      obtain ⟨c0, c1, c2, c3⟩ := fourL HC5.out
      go_wp2_with fail
      refine (K2.out _).mono ?_
      rintro e w12 ⟨rfl, hb12⟩
      have HB6 := Hid.intro (HK2.out.trans ((k_trans HB5.out hb12).mono HK2.out.size))
      clear hb12 c0 c1 c2 c3 K2
      go_wp2_with fail
      refine (pwOk_any _).mono ?_
      rintro e w9 ⟨rfl, rfl⟩
      go_wp2
      go_ret
      exact ⟨rfl, HB6.out⟩
    clear c0 c1 c2 c3 HSum
    have hk12 : (k : Int) - 1 < 12 := by omega
    go_wp2_with fail
    go_loopw [8, 6] (fun s n W3 => ∃ j : Nat, s = .int .i64 ((j : Int) - 1) ∧ j ≤ 13 ∧ n = .int .i64 (((sumR (fun i => sumR (bitQ X Y W H i) 13) k : Nat) : Int) + ((sumR (bitQ X Y W H k) j : Nat) : Int)) ∧ Hid (Below wr.heap.size wr W3)) (fun s _ _ => 13 - (intOf s + 1).toNat)
    case atStart => exact ⟨0, rfl, Nat.zero_le _, by simp [sumR], Below.refl _ _⟩
    case round => as_aux_lemma =>
      obtain ⟨j, rfl, hj, rfl, HB2⟩ := hrel
      have hl1 := HL1.out k j
      have HS1 : Hid (sumR (fun i => sumR (bitQ X Y W H i) 13) (k + 1) = sumR (fun i => sumR (bitQ X Y W H i) 13) k + sumR (bitQ X Y W H k) 13) := rfl
      generalize sumR (fun i => sumR (bitQ X Y W H i) 13) k = N at hl2 HS1 ⊢
      by_cases hj13 : j < 13
      case neg =>
        obtain rfl : j = 13 := by omega
        have HB5 := Hid.intro (HB.out.trans (HB2.out.mono HB.out.size))
        go_wp2
        go_roundw
        case rel => exact ⟨k + 1, by go_num, by omega, by rw [HS1.out, Int.natCast_add], HB5⟩
        case measure => simp [intOf]; omega
      have hj12 : (j : Int) - 1 < 12 := by omega
      have K1 := Hid.intro (KI.out ((k : Int) - 1) ((j : Int) - 1) (by unfold I64; omega) (by unfold I64; omega))
      have HS2 : Hid (sumR (bitQ X Y W H k) (j + 1) = sumR (bitQ X Y W H k) j + (if qinB X Y W H ((k : Int) - 1) ((j : Int) - 1) = true then 1 else 0)) := rfl
      generalize sumR (bitQ X Y W H k) j = M at hl1 HS2 ⊢
      generalize qinB X Y W H ((k : Int) - 1) ((j : Int) - 1) = bb at K1 HS2
      obtain ⟨c0, c1, c2, c3⟩ := fourL ((HB2.out.block qb (Array.getElem?_eq_some_iff.1 HC3.out).1).trans HC3.out)
      cases bb with
      | true =>
        go_wp2_with fail
        refine (K1.out _).mono ?_
        rintro e w11 ⟨rfl, hb11⟩
        have HB5 := Hid.intro (k_trans HB2.out hb11)
        clear hb11 c0 c1 c2 c3 K1
        go_wp2
        go_roundw
        case rel => exact ⟨j + 1, by go_num, by omega, by rw [HS2.out]; simp; omega, HB5⟩
        case measure => simp [intOf]; omega
      | false =>
        go_wp2_with fail
        refine (K1.out _).mono ?_
        rintro e w11 ⟨rfl, hb11⟩
        have HB5 := Hid.intro (k_trans HB2.out hb11)
        clear hb11 c0 c1 c2 c3 K1
        go_wp2
        go_roundw
        case rel => exact ⟨j + 1, by go_num, by omega, by rw [HS2.out]; simp, HB5⟩
        case measure => simp [intOf]; omega

theorem lawQryIn (a : Option Addr) (len cap : Nat) (w : World) (h : IsCode w a len cap) :
    Calls Try.prog 4 #[.slice a len cap] w fun e w' => e = .returned (.bool true) ∧ Below w.heap.size w w' := by
  by_cases hl : len ≤ 1048576
  · exact lawQI_walk a len cap hl w h
  · have hl' : (1048576 : Int) < (len : Int) := by omega
    clear h
    go_enter Try.func4, Try.ntmps4
    go_wp2
    go_ret
    exact ⟨rfl, Below.refl _ _⟩
end Go.Proofs.Ytcbibdhlkdcmiai
