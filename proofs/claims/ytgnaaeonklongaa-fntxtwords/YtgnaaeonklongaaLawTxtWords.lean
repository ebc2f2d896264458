/-
  PROVED HERE: the law FnTxtWords returns true at every code that lies in memory.
-/
import Derived.Test.YtgnaaeonklongaaDrawTxt
import Derived.Test.YtgnaaeonklongaaWdWords
import Derived.Test.YtgnaaeonklongaaWdCountI
import Derived.Test.YtgnaaeonklongaaWdJoin
import Derived.Test.YtgnaaeonklongaaPwTexts
import Derived.Test.YtgnaaeonklongaaPwOk
import Derived.Test.YtgnaaeonklongaaJoinI
namespace Go.Proofs.Ytgnaaeonklongaa
open Go.RowKit

set_option maxRecDepth 100000 in
theorem drawTxtWords_any (a : Option Addr) (len cap : Nat) (w : World) (h : IsCode w a len cap) :
    Calls Try.prog 9 #[.slice a len cap] w fun e w' => ∃ s : ByteArray, e = .returned (.string s) ∧ s.size ≤ 61 ∧ Below w.heap.size w w' := by
  have HC := Hid.intro h
  clear h
  go_enter Try.func9, Try.ntmps9
  go_wp2_with fail
  refine (open_any _ _ _ _ HC.out).mono ?_
  rintro e w1 ⟨rfl, hR1, hb1⟩
  go_wp2_with fail
  refine (l20AnyText_any _ 0 _ (by omega) _ hR1 (by omega)).mono ?_
  rintro e w2 ⟨s, rfl, hs, hR2, hb2⟩
  go_wp2
  go_ret
  exact ⟨s, rfl, hs, hb1.trans (hb2.below hb1.size (Nat.le_refl _))⟩

/-- the words of a word -/
theorem wordsOne (x : ByteArray) (hx : x.size ≤ 30) (h1 : (wordsW x).length = 1) (w : World) : Calls Try.prog 10 #[.string x] w fun e w' => ∃ a cap, e = .returned (.slice a 1 cap) ∧ Below w.heap.size w w' :=
  (implTxtWords x (by unfold maxLen; omega) w).mono (fun _ _ ⟨v, he, hv, hb⟩ => by
    obtain ⟨a, cap, rfl⟩ := words_form hv
    rw [h1] at he
    exact ⟨a, cap, he, hb⟩)
theorem lnTo_le30 (l : List W30) : ∀ k, lnTo (l.map (fun x => x.1)) k ≤ 30 * k
  | 0 => by simp [lnTo]
  | k + 1 => by
    have ih := lnTo_le30 l k
    by_cases h : k < (l.map (fun x : W30 => x.1)).length
    · rw [lnTo_succ h]
      have h' : k < l.length := by rw [List.length_map] at h; exact h
      have : ((l.map (fun x : W30 => x.1)).getD k dS).size ≤ 30 := by simp [List.getD, h']; exact l[k].2.2
      omega
    · have : lnTo (l.map (fun x : W30 => x.1)) (k + 1) = lnTo (l.map (fun x : W30 => x.1)) k := by
        unfold lnTo
        rw [List.take_of_length_le (by omega), List.take_of_length_le (by omega)]
      omega
theorem joinWords {s : ByteArray} (hok : txtOkB s = true) (v : Value) (w : World) {B : Nat} (h : w.ownsRow B 9 1 v (wordsW s).length ((wordsW s).map (fun x => Value.string x.1))) :
    Calls Try.prog 17 #[v] w fun e w' => e = .returned (.string s) ∧ Below w.heap.size w w' := by
  have hj := join_words hok
  have hl := wordsW_len s
  have ht := lnTo_le30 (wordsW s) (wordsW s).length
  have := implTxtJoin v _ (by unfold totS; rw [List.length_map]; omega) w (strs_of_words h)
  rw [hj] at this
  exact this

set_option maxRecDepth 100000 in
set_option maxHeartbeats 2000000 in
theorem lawTxtWords (a : Option Addr) (len cap : Nat) (w : World) (h : IsCode w a len cap) :
    Calls Try.prog 3 #[.slice a len cap] w fun e w' => e = .returned (.bool true) ∧ Below w.heap.size w w' := by
  have HC := Hid.intro h
  have hlen : len ≤ maxLen := Nat.le_trans h.1 h.2.1
  unfold maxLen at hlen
  clear h
  by_cases hbig : (1048576 : Int) < (len : Int)
  · go_enter Try.func3, Try.ntmps3
    go_wp2
    go_ret
    exact ⟨rfl, Below.refl _ _⟩
  · go_enter Try.func3, Try.ntmps3
    go_wp2_with fail
    refine (drawTxtWords_any _ _ _ _ HC.out).mono ?_
    rintro e w1 ⟨s, rfl, hs, hb1⟩
    have K1 := Hid.intro hb1
    have hm : s.size ≤ maxLen := by unfold maxLen; omega
    have HW := Hid.intro (implTxtWords s hm)
    have HS := Hid.intro (specTxtWords s hm)
    have HN := Hid.intro (implTxtCount s hm)
    have HO := Hid.intro (implTxtOk s)
    have HQ := Hid.intro (specTxtOk s)
    have H1 : Hid (∀ k (h : k < (wordsW s).length), (wordsW (wordsW s)[k].1).length = 1) := fun k h => words_one h
    have HJ : Hid (txtOkB s = true → ∀ (v : Value) (w : World) (B : Nat), w.ownsRow B 9 1 v (wordsW s).length ((wordsW s).map (fun x => Value.string x.1)) → Calls Try.prog 17 #[v] w fun e w' => e = .returned (.string s) ∧ Below w.heap.size w w') := fun h v w B hr => joinWords h v w hr
    have HE : Hid (txtOkB s = false → wordsW s = []) := fun h => by rw [wordsW, if_neg (by rw [h]; simp)]
    have hwl := wordsW_len s
    have hml : ((wordsW s).map (fun x : W30 => x.1)).length = (wordsW s).length := List.length_map ..
    have Hm := Hid.intro hm
    generalize wordsW s = l at HW HS HN H1 HJ HE hwl hml
    have hne : ((l.length : Int) != (l.length : Int)) = false := by simp
    clear hb1 HC hm
    go_wp2_with fail
    refine (HW.out _).mono ?_
    rintro e w2 ⟨v2, rfl, hv2, hb2⟩
    have V2 := Hid.intro hv2
    have K2 := Hid.intro (k_trans K1.out hb2)
    obtain ⟨a2, c2, rfl⟩ := words_form hv2
    clear hv2 hb2
    go_wp2_with fail
    refine (HS.out _).mono ?_
    rintro e w3 ⟨v3, rfl, hv3, hb3⟩
    have V3 := Hid.intro hv3
    have X3 := Hid.intro (ownsRow_keptW V2.out hb3)
    have K3 := Hid.intro (k_trans K2.out hb3)
    obtain ⟨a3, c3, rfl⟩ := words_form hv3
    clear hv3 hb3
    go_wp2_with fail
    refine (pwTexts_any _ _ (l.map (fun x => x.1)) _ (strs_of_words X3.out) (strs_of_words V3.out)).mono ?_
    rintro e w4 ⟨rfl, n4, rfl⟩
    have X4 : Hid ((w3.drewN n4).ownsRow w1.heap.size 9 1 (.slice a2 l.length c2) l.length (l.map (fun x => Value.string x.1))) := X3.out
    have K4 := Hid.intro (k_drewN K3.out n4)
    clear V2 V3 X3 K2 K3 HS
    generalize w3.drewN n4 = w4 at X4 K4
    go_wp2_with fail
    refine (HN.out _).mono ?_
    rintro e w5 ⟨rfl, hb5⟩
    have X5 := Hid.intro (ownsRow_keptW X4.out hb5)
    have K5 := Hid.intro (k_trans K4.out hb5)
    clear hb5
    cases hok : txtOkB s with
    | false =>
      have hl0 : l = [] := HE.out hok
      subst hl0
      rw [hok] at HO HQ
      go_wp2_with (first | (go_at_call 14; refine (HO.out _ Hm.out).mono ?_; rintro e w' ⟨rfl, rfl⟩) | (go_at_call 15; refine (HQ.out _ Hm.out).mono ?_; rintro e w' ⟨rfl, rfl⟩) | (go_at_call 16; refine (pwOk_any _).mono ?_; rintro e w' ⟨rfl, rfl⟩))
      go_ret
      exact ⟨rfl, K5.out⟩
    | true =>
      have HJ2 := Hid.intro (HJ.out hok)
      rw [hok] at HO HQ
      clear HJ HE
      go_wp2_with (first | (go_at_call 14; refine (HO.out _ Hm.out).mono ?_; rintro e w' ⟨rfl, rfl⟩) | (go_at_call 15; refine (HQ.out _ Hm.out).mono ?_; rintro e w' ⟨rfl, rfl⟩))
      go_loopw [5] (fun i W => ∃ k : Nat, k ≤ l.length ∧ i = .int .i64 k ∧ Hid (W.ownsRow w1.heap.size 9 1 (.slice a2 l.length c2) l.length (l.map (fun x => Value.string x.1))) ∧ Hid (Below w.heap.size w W)) (fun i _ => l.length - (intOf i).toNat)
      case atStart => exact ⟨0, Nat.zero_le _, rfl, X5, K5⟩
      case round =>
        obtain ⟨k, hk, rfl, X6, K6⟩ := hrel
        by_cases hlt : k < l.length
        · obtain ⟨g, cap', e', h1, h2, hx⟩ := wordsAt X6.out hlt
          simp only [Value.slice.injEq, true_and] at e'
          obtain ⟨rfl, rfl⟩ := e'
          have h3 := l[k].2
          have HX := Hid.intro (wordsOne l[k].1 h3.2 (H1.out k hlt))
          have he : ¬ l[k].1.toList = [] := fun h => by have := size_nil h; omega
          have he' : l[k].1.toList.isEmpty = false := by simpa using he
          generalize l[k].1 = x at hx HX h3 he he'
          unfold maxLen at h2
          go_wp2_with fail
          refine (HX.out _).mono ?_
          rintro e w7 ⟨a7, c7, rfl, hb7⟩
          have X7 := Hid.intro (ownsRow_keptW X6.out hb7)
          have K7 := Hid.intro (k_trans K6.out hb7)
          clear hb7
          go_wp2
          go_roundw
          case rel => exact ⟨k + 1, by omega, by go_num, X7, K7⟩
          case measure => simp [intOf]; omega
        · obtain rfl : k = l.length := by omega
          go_wp2_with fail
          refine (HJ2.out _ _ _ X6.out).mono ?_
          rintro e w7 ⟨rfl, hb7⟩
          have K7 := Hid.intro (k_trans K6.out hb7)
          clear hb7
          go_wp2_with (go_at_call 16; refine (pwOk_any _).mono ?_; rintro e w' ⟨rfl, rfl⟩)
          go_ret
          exact ⟨rfl, K7.out⟩
end Go.Proofs.Ytgnaaeonklongaa
