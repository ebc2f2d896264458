/-
  PROVED HERE: the law FnTxtWider returns true at every code that lies in memory.
-/
import Derived.Test.YtgnaaeonklongaaDrawLn
import Derived.Test.YtgnaaeonklongaaLnI2
import Derived.Test.YtgnaaeonklongaaLnWide
import Derived.Test.YtgnaaeonklongaaLawTxtLeast
import Derived.Test.YtgnaaeonklongaaStrsL
import Derived.Test.YtgnaaeonklongaaWdCountI
import Derived.Test.YtgnaaeonklongaaPwTexts
namespace Go.Proofs.Ytgnaaeonklongaa
open Go.RowKit

theorem lnTo_sum (l : List W30) : lnTo (l.map (fun x => x.1)) (l.map (fun x => x.1)).length = (l.map (fun x => x.1.size)).sum := by
  unfold lnTo
  rw [List.take_length, List.map_map]
  rfl
theorem wish_one (s : ByteArray) : (lnOut (lnSt (wishOf s) (wordsW s))).length = if (wordsW s).length = 0 then 0 else 1 := by
  apply one_line
  cases hok : txtOkB s with
  | false =>
    have : wordsW s = [] := by rw [wordsW, if_neg (by rw [hok]; simp)]
    rw [this]
    simp
    omega
  | true =>
    have hj := congrArg ByteArray.size (join_words hok)
    rw [joinTo_len _ _ (Nat.le_refl _), lnTo_sum, List.length_map] at hj
    have : wishOf s = s.size := by rw [wishOf, if_pos hok]
    rw [this]
    omega
theorem rowS_strs {w : World} {B : Nat} {v : Value} {l : List ByteArray} (h : RowS w B v l) (hs : ∀ x ∈ l, x.size ≤ 61) : StrsAt w B v l := strs_of_row (row_owns h) hs
theorem implLinesR (s : ByteArray) (hs : s.size ≤ maxLen) (q : Int) (w : World) : Calls Try.prog 21 #[.string s, .int .i64 q] w fun e w' => ∃ v, e = .returned v ∧ RowS w' w.heap.size v (lnOut (lnSt q (wordsW s))) ∧ Below w.heap.size w w' :=
  (implTxtLines s hs q w).mono (fun _ _ ⟨v, h1, h2, h3⟩ => ⟨v, h1, RowS.of_owns h2, h3⟩)

set_option maxRecDepth 100000 in
set_option maxHeartbeats 2000000 in
theorem lawTxtWider (a : Option Addr) (len cap : Nat) (w : World) (h : IsCode w a len cap) :
    Calls Try.prog 7 #[.slice a len cap] w fun e w' => e = .returned (.bool true) ∧ Below w.heap.size w w' := by
  have HC := Hid.intro h
  have hlen : len ≤ maxLen := Nat.le_trans h.1 h.2.1
  unfold maxLen at hlen
  clear h
  by_cases hbig : (1048576 : Int) < (len : Int)
  · go_enter Try.func7, Try.ntmps7
    go_wp2
    go_ret
    exact ⟨rfl, Below.refl _ _⟩
  · go_enter Try.func7, Try.ntmps7
    go_wp2_with fail
    refine (drawTxtLines_any _ _ _ _ HC.out).mono ?_
    rintro e w1 ⟨s, q, rfl, hs, hq1, hq2, hb1⟩
    have K1 := Hid.intro hb1
    have hm : s.size ≤ maxLen := by unfold maxLen; omega
    have hwl := wordsW_len s
    have HA := Hid.intro (implLinesR s hm q)
    have HB := Hid.intro (implLinesR s hm (q + 1))
    have HCc := Hid.intro (implLinesR s hm (wishOf s))
    have HD := Hid.intro (implLinesR s hm (leastOf (wordsW s)))
    have HS := Hid.intro (specTxtLines s hm q (by omega))
    have HX := Hid.intro (implTxtWish s hm)
    have HL := Hid.intro (implTxtLeast s hm)
    have HN := Hid.intro (implTxtCount s hm)
    have FA : Hid (∀ x ∈ lnOut (lnSt q (wordsW s)), x.size ≤ 61) := line_le (by omega) _ (fun x _ => by have := x.2.2; omega)
    have hla := (out_bound q (wordsW s)).1
    have hlb := (out_bound (q + 1) (wordsW s)).1
    have hlc := (out_bound (wishOf s) (wordsW s)).1
    have hld := (out_bound (leastOf (wordsW s)) (wordsW s)).1
    have hAB := wider (show q ≤ q + 1 by omega) (wordsW s)
    have hone := Hid.intro (wish_one s)
    have FD : Hid (∀ x ∈ lnOut (lnSt (leastOf (wordsW s)) (wordsW s)), x.size ≤ leastOf (wordsW s)) := line_le (Int.le_refl _) _ (fun x hx => (foldl_max_ge (wordsW s) 0).2 x hx)
    have hle := leastOf_le (wordsW s)
    have hww : wishOf s ≤ 61 := by unfold wishOf; split <;> omega
    generalize wishOf s = m at HCc HX hlc hone hww
    generalize leastOf (wordsW s) = n at HD HL hld FD hle
    generalize (wordsW s).length = N at HN hwl hla hlb hlc hld hone
    generalize lnOut (lnSt q (wordsW s)) = A at HA HS FA hla hAB
    generalize lnOut (lnSt (q + 1) (wordsW s)) = B at HB hlb hAB
    generalize lnOut (lnSt (m : Int) (wordsW s)) = C at HCc hlc hone
    generalize lnOut (lnSt (n : Int) (wordsW s)) = D at HD hld FD
    clear hb1 HC hm
    have hgt : ¬ (A.length : Int) < (B.length : Int) := by omega
    go_wp2_with fail
    refine (HA.out _).mono ?_
    rintro e w2 ⟨v2, rfl, hr2, hb2⟩
    obtain ⟨a2, c2, rfl⟩ := hr2.form
    have R2 := Hid.intro hr2
    have K2 := Hid.intro (k_trans K1.out hb2)
    clear hr2 hb2
    go_wp2_with fail
    refine (HS.out _).mono ?_
    rintro e w3 ⟨v3, rfl, hr3, hb3⟩
    obtain ⟨a3, c3, rfl⟩ := hr3.form
    have R3 := Hid.intro hr3
    have X3 := Hid.intro (R2.out.below hb3 (Nat.le_refl _))
    have K3 := Hid.intro (k_trans K2.out hb3)
    clear hr3 hb3
    go_wp2_with fail
    refine (pwTexts_any _ _ A _ (rowS_strs X3.out FA.out) (rowS_strs R3.out FA.out)).mono ?_
    rintro e w4 ⟨rfl, n4, rfl⟩
    have K4 := Hid.intro (k_drewN K3.out n4)
    clear R2 R3 X3 K2 K3 HS HA FA
    generalize w3.drewN n4 = w4 at K4
    go_wp2_with fail
    refine (HB.out _).mono ?_
    rintro e w5 ⟨v5, rfl, hr5, hb5⟩
    obtain ⟨a5, c5, rfl⟩ := hr5.form
    have K5 := Hid.intro (k_trans K4.out hb5)
    clear hr5 hb5 HB
    go_wp2_with fail
    refine (HX.out _).mono ?_
    rintro e w6 ⟨rfl, rfl⟩
    go_wp2_with fail
    refine (HCc.out _).mono ?_
    rintro e w7 ⟨v7, rfl, hr7, hb7⟩
    obtain ⟨a7, c7, rfl⟩ := hr7.form
    have K7 := Hid.intro (k_trans K5.out hb7)
    clear hr7 hb7 HCc
    go_wp2_with fail
    refine (HL.out _).mono ?_
    rintro e w8 ⟨rfl, hb8⟩
    have K8 := Hid.intro (k_trans K7.out hb8)
    clear hb8
    go_wp2_with fail
    refine (HD.out _).mono ?_
    rintro e w9 ⟨v9, rfl, hr9, hb9⟩
    obtain ⟨a9, c9, rfl⟩ := hr9.form
    have R9 := Hid.intro hr9
    have K9 := Hid.intro (k_trans K8.out hb9)
    clear hr9 hb9 HD
    go_wp2_with fail
    go_loopw [8] (fun i W => ∃ k : Nat, k ≤ D.length ∧ i = .int .i64 k ∧ Hid (RowS W w8.heap.size (.slice a9 D.length c9) D) ∧ Hid (Below w.heap.size w W)) (fun i _ => D.length - (intOf i).toNat)
    case atStart => exact ⟨0, Nat.zero_le _, rfl, R9, K9⟩
    case round =>
      obtain ⟨k, hk, rfl, RR, KR⟩ := hrel
      by_cases hlt : k < D.length
      · obtain ⟨g, cap', e', hg, hgs, h1, h2, hx, _⟩ := RR.out.get hlt
        simp only [Value.slice.injEq, true_and] at e'
        obtain ⟨rfl, rfl⟩ := e'
        have hxn : (D.getD k eS).size ≤ n := by
          have := FD.out D[k] (List.getElem_mem hlt)
          simpa [List.getD, hlt] using this
        generalize D.getD k eS = x at hx hxn
        have hxg : ¬ (n : Int) < (x.size : Int) := by omega
        have hk0 : (0 : Int) ≤ (k : Int) := by omega
        have hk1 : (k : Int) < (D.length : Int) := by omega
        unfold maxLen at h2
        go_wp2_with fail
        go_region_with (go_at_call 24; refine (HL.out _).mono ?_; rintro e w10 ⟨rfl, hb10⟩; have hx10 := (hb10.cell (p := ⟨g, k, none⟩) hgs).trans hx; have R10 := Hid.intro ((show RowS wr.drew _ _ _ from RR.out).below hb10 (Nat.le_refl _)); have K10 := Hid.intro (k_trans (k_drew KR.out) hb10); clear hb10)
        all_goals
          go_wp2
          go_roundw
          case rel => exact ⟨k + 1, by omega, by go_num, R10, K10⟩
          case measure => simp [intOf]; omega
      · obtain rfl : k = D.length := by omega
        by_cases hN : N = 0
        · have hC : C.length = 0 := by rw [hone.out, if_pos hN]
          have b1 : ((N : Int) == 0) = true := by simp [hN]
          have b2 : ((C.length : Int) == 0) = true := by simp [hC]
          clear hone hN hC
          go_wp2_with fail
          refine (HN.out _).mono ?_
          rintro e w11 ⟨rfl, hb11⟩
          have K11 := Hid.intro (k_trans KR.out hb11)
          clear hb11
          go_wp2_with (go_at_call 16; refine (pwOk_any _).mono ?_; rintro e w' ⟨rfl, rfl⟩)
          go_ret
          exact ⟨rfl, K11.out⟩
        · have hC : C.length = 1 := by rw [hone.out, if_neg hN]
          have b1 : ((N : Int) == 0) = false := by simp; omega
          have b2 : ((C.length : Int) == 1) = true := by simp [hC]
          clear hone hN hC
          go_wp2_with fail
          refine (HN.out _).mono ?_
          rintro e w11 ⟨rfl, hb11⟩
          have K11 := Hid.intro (k_trans KR.out hb11)
          clear hb11
          go_wp2_with (go_at_call 16; refine (pwOk_any _).mono ?_; rintro e w' ⟨rfl, rfl⟩)
          go_ret
          exact ⟨rfl, K11.out⟩
end Go.Proofs.Ytgnaaeonklongaa
