/-
  PROVED HERE: the law FnTxtGreedy returns true at every code that lies in memory.
-/
import Derived.Test.YtfkfgmfahoeaoaaDrawLn
import Derived.Test.YtfkfgmfahoeaoaaLnI2
import Derived.Test.YtfkfgmfahoeaoaaLnWide
import Derived.Test.YtfkfgmfahoeaoaaLnFirst
import Derived.Test.YtfkfgmfahoeaoaaWdWords
import Derived.Test.YtfkfgmfahoeaoaaStrsL
import Derived.Test.YtfkfgmfahoeaoaaPwTexts
import Derived.Test.YtfkfgmfahoeaoaaPwOk
namespace Go.Proofs.Ytfkfgmfahoeaoaa
open Go.RowKit

theorem rowS_strsG {w : World} {B : Nat} {v : Value} {l : List ByteArray} (h : RowS w B v l) (hs : ∀ x ∈ l, x.size ≤ 61) : StrsAt w B v l := strs_of_row (row_owns h) hs
theorem implLinesRG (s : ByteArray) (hs : s.size ≤ maxLen) (q : Int) (w : World) : Calls Try.prog 21 #[.string s, .int .i64 q] w fun e w' => ∃ v, e = .returned v ∧ RowS w' w.heap.size v (lnOut (lnSt q (wordsW s))) ∧ Below w.heap.size w w' :=
  (implTxtLines s hs q w).mono (fun _ _ ⟨v, h1, h2, h3⟩ => ⟨v, h1, RowS.of_owns h2, h3⟩)
theorem implWordsRG (s : ByteArray) (hs : s.size ≤ maxLen) (w : World) : Calls Try.prog 10 #[.string s] w fun e w' => ∃ v, e = .returned v ∧ RowS w' w.heap.size v ((wordsW s).map (fun x => x.1)) ∧ Below w.heap.size w w' :=
  (implTxtWords s hs w).mono (fun _ _ ⟨v, h1, h2, h3⟩ => ⟨v, h1, RowS.of_owns (by rw [List.length_map, List.map_map]; exact h2), h3⟩)

set_option maxRecDepth 100000 in
set_option maxHeartbeats 4000000 in
theorem lawTxtGreedy (a : Option Addr) (len cap : Nat) (w : World) (h : IsCode w a len cap) :
    Calls Try.prog 6 #[.slice a len cap] w fun e w' => e = .returned (.bool true) ∧ Below w.heap.size w w' := by
  have HC := Hid.intro h
  have hlen : len ≤ maxLen := Nat.le_trans h.1 h.2.1
  unfold maxLen at hlen
  clear h
  by_cases hbig : (1048576 : Int) < (len : Int)
  · go_enter Try.func6, Try.ntmps6
    go_wp2
    go_ret
    exact ⟨rfl, Below.refl _ _⟩
  · go_enter Try.func6, Try.ntmps6
    go_wp2_with fail
    refine (drawTxtLines_any _ _ _ _ HC.out).mono ?_
    rintro e w1 ⟨s, q, rfl, hs, hq1, hq2, hb1⟩
    have K1 := Hid.intro hb1
    have hm : s.size ≤ maxLen := by unfold maxLen; omega
    have hwl := wordsW_len s
    have HA := Hid.intro (implLinesRG s hm q)
    have HS := Hid.intro (specTxtLines s hm q (by omega))
    have FA : Hid (∀ x ∈ lnOut (lnSt q (wordsW s)), x.size ≤ 61) := line_le (by omega) _ (fun x _ => by have := x.2.2; omega)
    have hla := (out_bound q (wordsW s)).1
    have HGR := Hid.intro (fun i h0 hi => greedy s q (i := i) h0 hi)
    generalize lnOut (lnSt q (wordsW s)) = A at HA HS FA hla HGR
    clear hb1 HC hm
    go_wp2_with fail
    refine (HA.out _).mono ?_
    rintro e w2 ⟨v2, rfl, hr2, hb2⟩
    obtain ⟨a2, c2, rfl⟩ := hr2.form
    have R2 := Hid.intro hr2
    have K2 := Hid.intro (k_trans K1.out hb2)
    clear hr2 hb2
    go_wp2_with fail
    refine (HS.out _).mono ?_
    rintro e w3 ⟨v3, rfl, hr3, hb3⟩
    obtain ⟨a3, c3, rfl⟩ := hr3.form
    have R3 := Hid.intro hr3
    have X3 := Hid.intro (R2.out.below hb3 (Nat.le_refl _))
    have K3 := Hid.intro (k_trans K2.out hb3)
    clear hr3 hb3
    go_wp2_with fail
    refine (pwTexts_any _ _ A _ (rowS_strsG X3.out FA.out) (rowS_strsG R3.out FA.out)).mono ?_
    rintro e w4 ⟨rfl, n4, e4⟩
    have K4 : Hid (Below w.heap.size w w4) := by rw [e4]; exact k_drewN K3.out n4
    have X4 : Hid (RowS w4 w1.heap.size (.slice a2 A.length c2) A) := by rw [e4]; exact X3.out
    clear R2 R3 X3 K2 K3 HS HA e4
    go_wp2_with fail
    go_loopw [6] (fun s6 W => ∃ i : Nat, 1 ≤ i ∧ i ≤ A.length + 1 ∧ s6 = .int .i64 i ∧ Hid (RowS W w1.heap.size (.slice a2 A.length c2) A) ∧ Hid (Below w.heap.size w W)) (fun s6 _ => A.length - (intOf s6).toNat)
    case atStart => exact ⟨1, Nat.le_refl _, by omega, rfl, X4, K4⟩
    case round =>
      clear X4 K4
      obtain ⟨i, hi1, hi2, rfl, RR, KR⟩ := hrel
      by_cases hlt : i < A.length
      · obtain ⟨m, rfl⟩ : ∃ m, i = m + 1 := ⟨i - 1, by omega⟩
        obtain ⟨x, r, hwd, hgq⟩ := HGR.out (m + 1) (by omega) hlt
        rw [Nat.add_sub_cancel] at hgq
        obtain ⟨g, cap', e', hg, hgs, h1, h2, hx, _⟩ := RR.out.get hlt
        simp only [Value.slice.injEq, true_and] at e'
        obtain ⟨rfl, rfl⟩ := e'
        unfold maxLen at h2
        have hmem : ∀ j, j < A.length → (A.getD j eS).size ≤ 61 := fun j hj => by
          have : A.getD j eS = A[j] := by simp [List.getD, hj]
          rw [this]; exact FA.out _ (List.getElem_mem hj)
        have h61 := hmem (m + 1) hlt
        have h60 := hmem m (by omega)
        have hxs := x.2.2
        have HN := Hid.intro (implWordsRG (A.getD (m + 1) eS) (by unfold maxLen; omega))
        rw [hwd] at HN
        clear hmem hwd
        generalize A.getD (m + 1) eS = y at hx h61 HN
        go_wp2_with fail
        refine (HN.out _).mono ?_
        rintro e w6 ⟨v6, rfl, hr6, hb6⟩
        obtain ⟨a6, c6, f6⟩ := hr6.form
        have R6 := Hid.intro (RR.out.below hb6 (Nat.le_refl _))
        have K6 := Hid.intro (k_trans KR.out hb6)
        obtain ⟨g6, cap6, e6, _, hgs6, h16, h26, hx6, _⟩ := hr6.get (i := 0) (by simp)
        have f0 : ((x :: r).map (fun x => x.1)).getD 0 eS = x.1 := by simp
        have fl : ((x :: r).map (fun x => x.1)).length = r.length + 1 := by simp
        rw [f0] at hx6
        rw [fl] at e6 h16
        subst e6
        clear f6 f0 fl hr6 hb6 HN
        unfold maxLen at h26
        obtain ⟨gm, capm, em, _, hgm, _, _, hxm, _⟩ := R6.out.get (i := m) (by omega)
        simp only [Value.slice.injEq, Option.some.injEq, Addr.mk.injEq, and_true, true_and] at em
        obtain ⟨q1, q2⟩ := em
        subst q1
        clear q2
        generalize A.getD m eS = ym at hxm h60 hgq
        generalize hX : x.1 = X at hx6 hxs hgq
        have HX := Hid.intro hX
        clear hX
        have hrl : r.length ≤ 9223372036854775806 := by omega
        have hr0 : (((r.length : Int) + 1) == 0) = false := beq_eq_false_iff_ne.2 (by omega)
        have hng : ¬ ((ym.size : Int) + 1 + (X.size : Int)) ≤ q := by omega
        have hng2 : decide (((ym.size : Int) + 1 + (X.size : Int)) ≤ q) = false := decide_eq_false hng
        have p1 : (0 : Int) ≤ (m : Int) := by omega
        have p2 : (m : Int) < (A.length : Int) := by omega
        have p3 : IntKind.i64.wrap (m : Int) = (m : Int) := by rw [IntKind.wrap_i64]; omega
        have p4 : (0 : Int) < (r.length : Int) + 1 := by omega
        have p5 : IntKind.i64.wrap ((ym.size : Int) + 1) = (ym.size : Int) + 1 := by rw [IntKind.wrap_i64]; omega
        have p6 : IntKind.i64.wrap ((ym.size : Int) + 1 + (X.size : Int)) = (ym.size : Int) + 1 + (X.size : Int) := by rw [IntKind.wrap_i64]; omega
        go_wp2_with fail
        go_quiet (fail)
        have R7 : Hid (RowS (w6.drewN nq) w1.heap.size (.slice (some ⟨g, 0, none⟩) A.length c2) A) := R6.out
        have K7 : Hid (Below w.heap.size w (w6.drewN nq)) := k_drewN K6.out nq
        go_wp2
        go_roundw
        case rel => exact ⟨m + 2, by omega, by omega, by go_num, R7, K7⟩
        case measure => simp [intOf]; omega
      · have hnl : ¬ (i : Int) < (A.length : Int) := by omega
        go_wp2_with fail
        refine (pwOk_any _).mono ?_
        rintro e w8 ⟨rfl, e8⟩
        cases e8
        go_wp2
        go_ret
        exact ⟨rfl, KR.out⟩
end Go.Proofs.Ytfkfgmfahoeaoaa
