/-
  PROVED HERE: the law FnTxtLines returns true at every code that lies in memory.
-/
import Derived.Test.YtfkfgmfahoeaoaaDrawLn
import Derived.Test.YtfkfgmfahoeaoaaLnI2
import Derived.Test.YtfkfgmfahoeaoaaLnWide
import Derived.Test.YtfkfgmfahoeaoaaLnJoin
import Derived.Test.YtfkfgmfahoeaoaaJoinI2
import Derived.Test.YtfkfgmfahoeaoaaLawTxtLeast
import Derived.Test.YtfkfgmfahoeaoaaStrsL
import Derived.Test.YtfkfgmfahoeaoaaWdCountI
import Derived.Test.YtfkfgmfahoeaoaaPwTexts
namespace Go.Proofs.Ytfkfgmfahoeaoaa
open Go.RowKit

theorem rowS_strsL {w : World} {B : Nat} {v : Value} {l : List ByteArray} (h : RowS w B v l) (hs : ∀ x ∈ l, x.size ≤ 61) : StrsAt w B v l := strs_of_row (row_owns h) hs
theorem implLinesRL (s : ByteArray) (hs : s.size ≤ maxLen) (q : Int) (w : World) : Calls Try.prog 21 #[.string s, .int .i64 q] w fun e w' => ∃ v, e = .returned v ∧ RowS w' w.heap.size v (lnOut (lnSt q (wordsW s))) ∧ Below w.heap.size w w' :=
  (implTxtLines s hs q w).mono (fun _ _ ⟨v, h1, h2, h3⟩ => ⟨v, h1, RowS.of_owns h2, h3⟩)
theorem tot61 {l : List ByteArray} (hl : l.length ≤ 31) (hs : ∀ x ∈ l, x.size ≤ 61) : totS l ≤ 1048576 := by
  have : ∀ k, k ≤ l.length → lnTo l k ≤ 61 * k := fun k => by
    induction k with
    | zero => intro _; simp [lnTo]
    | succ k ih =>
      intro hk
      have h1 := ih (by omega)
      have hlt : k < l.length := by omega
      have h2 : (l.getD k dS).size ≤ 61 := by
        have := hs l[k] (List.getElem_mem hlt)
        simpa [List.getD, hlt] using this
      rw [lnTo_succ hlt]
      omega
  have := this l.length (Nat.le_refl _)
  unfold totS
  omega

set_option maxRecDepth 100000 in
set_option maxHeartbeats 4000000 in
theorem lawTxtLines (a : Option Addr) (len cap : Nat) (w : World) (h : IsCode w a len cap) :
    Calls Try.prog 5 #[.slice a len cap] w fun e w' => e = .returned (.bool true) ∧ Below w.heap.size w w' := by
  have HC := Hid.intro h
  have hlen : len ≤ maxLen := Nat.le_trans h.1 h.2.1
  unfold maxLen at hlen
  clear h
  by_cases hbig : (1048576 : Int) < (len : Int)
  · go_enter Try.func5, Try.ntmps5
    go_wp2
    go_ret
    exact ⟨rfl, Below.refl _ _⟩
  · go_enter Try.func5, Try.ntmps5
    go_wp2_with fail
    refine (drawTxtLines_any _ _ _ _ HC.out).mono ?_
    rintro e w1 ⟨s, q, rfl, hs, hq1, hq2, hb1⟩
    have K1 := Hid.intro hb1
    have hm : s.size ≤ maxLen := by unfold maxLen; omega
    have hwl := wordsW_len s
    have HA := Hid.intro (implLinesRL s hm q)
    have HS := Hid.intro (specTxtLines s hm q (by omega))
    have HO := Hid.intro (fun W => specTxtOk s W hm)
    have FA : Hid (∀ x ∈ lnOut (lnSt q (wordsW s)), x.size ≤ 61) := line_le (by omega) _ (fun x _ => by have := x.2.2; omega)
    have hla := (out_bound q (wordsW s)).1
    have HW1 : Hid (∀ y ∈ lnOut (lnSt q (wordsW s)), q < (y.size : Int) → (wordsW y).length = 1) := fun y hy hq => wide_one hy hq
    have HNO : Hid (txtOkB s = false → lnOut (lnSt q (wordsW s)) = []) := fun hok => by rw [wordsW, if_neg (by rw [hok]; simp)]; exact out_empty q
    have HYE : Hid (txtOkB s = true → joinTo (lnOut (lnSt q (wordsW s))) (lnOut (lnSt q (wordsW s))).length = s) := fun hok => lines_text hok q
    generalize lnOut (lnSt q (wordsW s)) = A at HA HS FA hla HW1 HNO HYE
    clear hb1 HC hm
    go_wp2_with fail
    refine (HA.out _).mono ?_
    rintro e w2 ⟨v2, rfl, hr2, hb2⟩
    obtain ⟨a2, c2, rfl⟩ := hr2.form
    have R2 := Hid.intro hr2
    have K2 := Hid.intro (k_trans K1.out hb2)
    clear hr2 hb2
    go_wp2_with fail
    refine (HS.out _).mono ?_
    rintro e w3 ⟨v3, rfl, hr3, hb3⟩
    obtain ⟨a3, c3, rfl⟩ := hr3.form
    have R3 := Hid.intro hr3
    have X3 := Hid.intro (R2.out.below hb3 (Nat.le_refl _))
    have K3 := Hid.intro (k_trans K2.out hb3)
    clear hr3 hb3
    go_wp2_with fail
    refine (pwTexts_any _ _ A _ (rowS_strsL X3.out FA.out) (rowS_strsL R3.out FA.out)).mono ?_
    rintro e w4 ⟨rfl, n4, e4⟩
    have K4 : Hid (Below w.heap.size w w4) := by rw [e4]; exact k_drewN K3.out n4
    have X4 : Hid (RowS w4 w1.heap.size (.slice a2 A.length c2) A) := by rw [e4]; exact X3.out
    clear R2 R3 X3 K2 K3 HS HA e4
    go_wp2_with fail
    refine (HO.out _).mono ?_
    rintro e w5 ⟨rfl, e5⟩
    cases e5
    by_cases hok : txtOkB s = true
    · rw [hok]
      have HY := HYE.out hok
      have HT := Hid.intro (tot61 (by omega) FA.out)
      go_wp2_with fail
      go_loopw [6] (fun s6 W => ∃ i : Nat, i ≤ A.length ∧ s6 = .int .i64 i ∧ Hid (RowS W w1.heap.size (.slice a2 A.length c2) A) ∧ Hid (Below w.heap.size w W)) (fun s6 _ => A.length - (intOf s6).toNat)
      case atStart => exact ⟨0, Nat.zero_le _, rfl, X4, K4⟩
      case round =>
        clear X4 K4
        obtain ⟨i, hi, rfl, RR, KR⟩ := hrel
        by_cases hlt : i < A.length
        · obtain ⟨g, cap', e', hg, hgs, h1, h2, hx, _⟩ := RR.out.get hlt
          simp only [Value.slice.injEq, true_and] at e'
          obtain ⟨rfl, rfl⟩ := e'
          unfold maxLen at h2
          have hmem : A.getD i eS ∈ A := by
            have : A.getD i eS = A[i] := by simp [List.getD, hlt]
            rw [this]; exact List.getElem_mem hlt
          have h61 := FA.out _ hmem
          have hw1 := HW1.out _ hmem
          have hltz : (i : Int) < (A.length : Int) := by omega
          generalize A.getD i eS = y at hx h61 hw1
          by_cases hgt : q < (y.size : Int)
          · have hone := hw1 hgt
            have HN := Hid.intro (implTxtCount y (by unfold maxLen; omega))
            rw [hone] at HN
            clear hw1 hone hmem
            go_wp2_with fail
            refine (HN.out _).mono ?_
            rintro e w6 ⟨rfl, hb6⟩
            have R6 := Hid.intro (RR.out.below hb6 (Nat.le_refl _))
            have K6 := Hid.intro (k_trans KR.out hb6)
            clear hb6
            go_wp2
            go_roundw
            case rel => exact ⟨i + 1, by omega, by go_num, R6, K6⟩
            case measure => simp [intOf]; omega
          · clear hw1 hmem
            go_wp2
            go_roundw
            case rel => exact ⟨i + 1, by omega, by go_num, RR, KR⟩
            case measure => simp [intOf]; omega
        · obtain rfl : i = A.length := by omega
          have HJ := implTxtJoin (.slice a2 A.length c2) A HT.out wr (rowS_strsL RR.out FA.out)
          rw [HY] at HJ
          have hss : (s.toList == s.toList) = true := by simp
          go_wp2_with fail
          refine HJ.mono ?_
          rintro e w7 ⟨rfl, hb7⟩
          have K7 := Hid.intro (k_trans KR.out hb7)
          clear hb7 HJ
          go_wp2_with fail
          refine (pwOk_any _).mono ?_
          rintro e w8 ⟨rfl, e8⟩
          cases e8
          go_wp2
          go_ret
          exact ⟨rfl, K7.out⟩
    · have hok' := eq_false_of_ne_true hok
      have hA := HNO.out hok'
      subst hA
      rw [hok']
      go_wp2_with fail
      refine (pwOk_any _).mono ?_
      rintro e w8 ⟨rfl, e8⟩
      cases e8
      go_wp2
      go_ret
      exact ⟨rfl, K4.out⟩
end Go.Proofs.Ytfkfgmfahoeaoaa
