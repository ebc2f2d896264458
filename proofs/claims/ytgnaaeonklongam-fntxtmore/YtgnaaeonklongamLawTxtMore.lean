/-
  PROVED HERE: the law FnTxtMore returns true at every code that lies in memory.
-/
import Derived.Test.YtgnaaeonklongamDrawLn
import Derived.Test.YtgnaaeonklongamLnI2
import Derived.Test.YtgnaaeonklongamWdMore
import Derived.Test.YtgnaaeonklongamPwRow
import Derived.Test.YtgnaaeonklongamPwOk
import Derived.Test.YtgnaaeonklongamWdCountI
namespace Go.Proofs.Ytgnaaeonklongam
open Go.RowKit

theorem implLinesM (s : ByteArray) (hs : s.size ≤ maxLen) (q : Int) (w : World) : Calls Try.prog 6 #[.string s, .int .i64 q] w fun e w' => ∃ v, e = .returned v ∧ RowS w' w.heap.size v (lnOut (lnSt q (wordsW s))) ∧ Below w.heap.size w w' :=
  (implTxtLines s hs q w).mono (fun _ _ ⟨v, h1, h2, h3⟩ => ⟨v, h1, RowS.of_owns h2, h3⟩)
theorem step_pos (q : Int) (st : List ByteArray × ByteArray) (x : W30) : 0 < (lnOut (stepLn q st x.1)).length := by
  have hx := x.2.1
  have hp : 0 < (stepLn q st x.1).2.size := by
    unfold stepLn
    by_cases c1 : 0 < st.2.size
    · by_cases c2 : q < (st.2.size : Int) + 1 + x.1.size
      · rw [if_pos c1, if_pos c2]; exact hx
      · rw [if_pos c1, if_neg c2]; dsimp only; rw [ByteArray.size_append]; omega
    · rw [if_neg c1]; exact hx
  simp [lnOut, hp]
theorem lines_zero (q : Int) (l : List W30) : (lnOut (lnSt q l)).length = 0 ↔ l.length = 0 := by
  rcases List.eq_nil_or_concat l with rfl | ⟨r, x, rfl⟩
  · exact ⟨fun _ => rfl, fun _ => rfl⟩
  · rw [List.concat_eq_append, lnSt_snoc]
    have := step_pos q (lnSt q r) x
    simp
    intro h
    rw [h] at this
    simp at this
theorem of_app (y : ByteArray) : y ++ ⟨#[32]⟩ ++ ofW.1 = y ++ ofB := Go.WideShapes.bytes_inj (by simp [ofW, ofB])
/-- the lines of a text with ' of' behind it -/
theorem more_lines (q : Int) (l : List W30) (h : (lnOut (lnSt q l)).length ≠ 0) :
    (q < ((lastLn (lnOut (lnSt q l))).size : Int) + 3 → lnOut (lnSt q (l ++ [ofW])) = lnOut (lnSt q l) ++ [⟨#[111, 102]⟩]) ∧
    (¬ q < ((lastLn (lnOut (lnSt q l))).size : Int) + 3 → lnOut (lnSt q (l ++ [ofW])) = (lnOut (lnSt q l)).set ((lnOut (lnSt q l)).length - 1) (lastLn (lnOut (lnSt q l)) ++ ofB)) := by
  have hz : (ofW.1.size : Int) = 2 := rfl
  rw [lnSt_snoc]
  refine ⟨fun hq => out_break (lnOk_all q l) h ofW (by omega), fun hq => ?_⟩
  rw [out_fits (lnOk_all q l) h ofW (by omega), of_app]

set_option maxRecDepth 100000 in
set_option maxHeartbeats 2000000 in
theorem lawTxtMore (a : Option Addr) (len cap : Nat) (w : World) (h : IsCode w a len cap) :
    Calls Try.prog 3 #[.slice a len cap] w fun e w' => e = .returned (.bool true) ∧ Below w.heap.size w w' := by
  have HC := Hid.intro h
  have hlen : len ≤ maxLen := Nat.le_trans h.1 h.2.1
  unfold maxLen at hlen
  clear h
  by_cases hbig : (1048576 : Int) < (len : Int)
  · go_enter Try.func3, Try.ntmps3
    go_wp2
    go_ret
    exact ⟨rfl, Below.refl _ _⟩
  · go_enter Try.func3, Try.ntmps3
    go_wp2_with fail
    refine (drawTxtLines_any _ _ _ _ HC.out).mono ?_
    rintro e w1 ⟨s, q, rfl, hs, hq1, hq2, hb1⟩
    have K1 := Hid.intro hb1
    have hm : s.size ≤ maxLen := by unfold maxLen; omega
    have hm' : (s ++ ofB).size ≤ maxLen := by rw [more_size]; unfold maxLen; omega
    have hwl := wordsW_len s
    have HA := Hid.intro (implLinesM s hm q)
    have HB := Hid.intro (implLinesM (s ++ ofB) hm' q)
    have HS := Hid.intro (specTxtLines s hm q (by omega))
    have HN := Hid.intro (implTxtCount s hm)
    have hzz := lines_zero q (wordsW s)
    have hla := (out_bound q (wordsW s)).1
    have hlb := (out_bound q (wordsW s)).2
    have HM : Hid ((lnOut (lnSt q (wordsW s))).length ≠ 0 → s.size + 3 ≤ 30 → wordsW (s ++ ofB) = wordsW s ++ [ofW]) := fun h1 h2 => by
      have hp : (wordsW s).length ≠ 0 := fun h => h1 (hzz.2 h)
      cases hok : txtOkB s with
      | false =>
        have : wordsW s = [] := by rw [wordsW, if_neg (by rw [hok]; simp)]
        rw [this] at hp; exact absurd rfl hp
      | true =>
        refine words_more hok ?_ h2
        rcases Nat.eq_zero_or_pos s.size with h0 | h0
        · rw [words_len hok, wordsFrom_end (by omega)] at hp; exact absurd rfl hp
        · exact h0
    have HL : Hid ((lnOut (lnSt q (wordsW s))).length ≠ 0 → _) := fun h => more_lines q (wordsW s) h
    have hz3 : ¬ 9223372036854775807 < s.size + 3 := by omega
    clear hb1 HC hm hm'
    go_wp2_with fail
    refine (HA.out _).mono ?_
    rintro e w2 ⟨v2, rfl, hr2, hb2⟩
    obtain ⟨a2, c2, rfl⟩ := hr2.form
    have R2 := Hid.intro hr2
    have K2 := Hid.intro (k_trans K1.out hb2)
    clear hr2 hb2
    go_wp2_with fail
    refine (HS.out _).mono ?_
    rintro e w3 ⟨v3, rfl, hr3, hb3⟩
    obtain ⟨a3, c3, rfl⟩ := hr3.form
    have R3 := Hid.intro hr3
    have X3 := Hid.intro (R2.out.below hb3 (Nat.le_refl _))
    have K3 := Hid.intro (k_trans K2.out hb3)
    clear hr3 hb3
    go_wp2_with fail
    refine (pwRd_any _ _ _ _ X3.out.rd R3.out.rd).mono ?_
    rintro e w4 ⟨rfl, n4, rfl⟩
    have X4 : Hid (RowS (w3.drewN n4) w1.heap.size (.slice a2 (lnOut (lnSt q (wordsW s))).length c2) (lnOut (lnSt q (wordsW s)))) := X3.out
    have K4 := Hid.intro (k_drewN K3.out n4)
    clear R2 R3 X3 K2 K3 HS HA
    generalize w3.drewN n4 = w4 at X4 K4
    by_cases hn : (lnOut (lnSt q (wordsW s))).length = 0
    · have hN : (wordsW s).length = 0 := hzz.1 hn
      rw [hN] at HN
      clear hzz HM HL HB X4
      rw [hn]
      go_wp2_with fail
      refine (HN.out _).mono ?_
      rintro e w5 ⟨rfl, hb5⟩
      have K5 := Hid.intro (k_trans K4.out hb5)
      clear hb5
      go_wp2_with (go_at_call 10; refine (pwOk_any _).mono ?_; rintro e w' ⟨rfl, rfl⟩)
      go_ret
      exact ⟨rfl, K5.out⟩
    · have hN : ¬ (wordsW s).length = 0 := fun h => hn (hzz.2 h)
      have b1 : (((lnOut (lnSt q (wordsW s))).length : Int) == 0) = false := beq_eq_false_iff_ne.2 (by omega)
      by_cases h30 : s.size + 3 ≤ 30
      · have h30' : ¬ (30 : Int) < (s.size : Int) + 3 := by omega
        have hE := HM.out hn h30
        have HB' : Hid (∀ w, Calls Try.prog 6 #[.string (s ++ ⟨#[32, 111, 102]⟩), .int .i64 q] w fun e w' => ∃ v, e = .returned v ∧ RowS w' w.heap.size v (lnOut (lnSt q (wordsW s ++ [ofW]))) ∧ Below w.heap.size w w') := by
          have := HB.out
          rw [hE] at this
          exact this
        obtain ⟨hbr, hft⟩ := HL.out hn
        have HBr := Hid.intro hbr
        have HFt := Hid.intro hft
        clear HB HM HL hbr hft hE hzz HN hN
        generalize lnOut (lnSt q (wordsW s ++ [ofW])) = A' at HB' HBr HFt
        generalize lnOut (lnSt q (wordsW s)) = A at HBr HFt X4 hn b1 hla hlb ⊢
        obtain ⟨m, hm⟩ := Nat.exists_eq_succ_of_ne_zero hn
        have hm2 : A.length = m + 1 := hm
        obtain ⟨g, c2', e', _, hgs, hc1, hc2, hy, _⟩ := X4.out.get (i := m) (by omega)
        simp only [Value.slice.injEq, true_and] at e'
        obtain ⟨rfl, rfl⟩ := e'
        have hyl : A.getD m eS = lastLn A := by unfold lastLn; rw [hm2]; rfl
        rw [hyl] at hy
        have hm1 : A.length - 1 = m := by omega
        rw [hm1] at HFt
        have D4 := Hid.intro X4.out.rd
        generalize lastLn A = y at hy hlb HBr HFt
        unfold maxLen at hc2
        rw [hm2] at hc1 D4
        clear b1
        have b1 : (((m : Int) + 1) == 0) = false := beq_eq_false_iff_ne.2 (by omega)
        rw [hm2]
        have hz4 : ¬ 9223372036854775807 < y.size + 3 := by omega
        go_wp2_with fail
        refine (HB'.out _).mono ?_
        rintro e w5 ⟨v5, rfl, hr5, hb5⟩
        obtain ⟨a5, c5, rfl⟩ := hr5.form
        have K5 := Hid.intro (k_trans K4.out hb5)
        have hy5 := (hb5.cell (p := ⟨g, m, none⟩) hgs).trans hy
        have X5 := Hid.intro (X4.out.below hb5 (Nat.le_refl _))
        have R5 := Hid.intro hr5
        clear hr5 hb5 hy X4 D4
        by_cases hqq : q < (y.size : Int) + 3
        · have hq' : ¬ (y.size : Int) + 3 ≤ q := by omega
          have hA' := HBr.out hqq
          have hl' : A'.length = m + 1 + 1 := by rw [hA', List.length_append, hm2]; rfl
          obtain ⟨g5, c5', e', _, _, hd1, hd2, hz5, _⟩ := R5.out.get (i := m + 1) (by omega)
          simp only [Value.slice.injEq, true_and] at e'
          obtain ⟨rfl, rfl⟩ := e'
          have hzv : A'.getD (m + 1) eS = ⟨#[111, 102]⟩ := by rw [hA']; simp [List.getD, ← hm2]
          rw [hzv] at hz5
          have T5 := Hid.intro (R5.out.rd.take (k := m + 1) (by omega))
          have ht : A'.take (m + 1) = A := by rw [hA', ← hm2]; simp
          rw [ht] at T5
          have D5 := Hid.intro X5.out.rd
          rw [hm2] at D5
          rw [hl'] at hd1
          rw [hl']
          unfold maxLen at hd2
          have beq : (((m : Int) + 1 + 1) == ((m : Int) + 1 + 1)) = true := by simp
          clear hA' HBr HFt R5 X5 hzv ht
          go_wp2_with (go_at_call 7; refine (pwRd_any _ _ A _ T5.out D5.out).mono ?_; rintro e w6 ⟨rfl, n6, rfl⟩)
          go_ret
          exact ⟨rfl, k_drewN K5.out n6⟩
        · have hq' : (y.size : Int) + 3 ≤ q := by omega
          have hA' := HFt.out (by omega)
          have hl' : A'.length = m + 1 := by rw [hA', List.length_set, hm2]
          obtain ⟨g5, c5', e', _, _, hd1, hd2, hz5, _⟩ := R5.out.get (i := m) (by omega)
          simp only [Value.slice.injEq, true_and] at e'
          obtain ⟨rfl, rfl⟩ := e'
          have hzv : A'.getD m eS = y ++ ⟨#[32, 111, 102]⟩ := by rw [hA']; simp [List.getD, hm2]; rfl
          rw [hzv] at hz5
          have T5 := Hid.intro (R5.out.rd.take (k := m) (by omega))
          have ht : A'.take m = A.take m := by rw [hA', List.take_set_of_le (Nat.le_refl _)]
          rw [ht] at T5
          have D5 := Hid.intro (X5.out.rd.take (k := m) (by omega))
          rw [hl'] at hd1
          rw [hl']
          unfold maxLen at hd2
          have beq : (((m : Int) + 1) == ((m : Int) + 1)) = true := by simp
          clear hA' HBr HFt R5 X5 hzv ht
          go_wp2_with fail
          go_quiet (refine pwRd_quiet _ _ (A.take m) _ _ T5.out D5.out)
          go_wp2
          go_ret
          exact ⟨rfl, k_drewN K5.out nq⟩
      · have h30' : (30 : Int) < (s.size : Int) + 3 := by omega
        have b2 : (((wordsW s).length : Int) == 0) = false := beq_eq_false_iff_ne.2 (by omega)
        clear hzz HM HL HB X4
        go_wp2_with fail
        refine (HN.out _).mono ?_
        rintro e w5 ⟨rfl, hb5⟩
        have K5 := Hid.intro (k_trans K4.out hb5)
        clear hb5
        go_wp2_with (go_at_call 10; refine (pwOk_any _).mono ?_; rintro e w' ⟨rfl, rfl⟩)
        go_ret
        exact ⟨rfl, K5.out⟩
end Go.Proofs.Ytgnaaeonklongam
