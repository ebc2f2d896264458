/-
  PROVED HERE: the law FnTxtLeast returns true at every code that lies in memory.
-/
import Derived.Test.YtfkfgmfahoeaoaaDrawTxt
import Derived.Test.YtfkfgmfahoeaoaaWdLeastS
import Derived.Test.YtfkfgmfahoeaoaaWdWords
import Derived.Test.YtfkfgmfahoeaoaaPwOk
namespace Go.Proofs.Ytfkfgmfahoeaoaa
open Go.RowKit

set_option maxRecDepth 100000 in
theorem drawTxtLeast_any (a : Option Addr) (len cap : Nat) (w : World) (h : IsCode w a len cap) :
    Calls Try.prog 25 #[.slice a len cap] w fun e w' => ∃ s : ByteArray, e = .returned (.string s) ∧ s.size ≤ 61 ∧ Below w.heap.size w w' := by
  have HC := Hid.intro h
  clear h
  go_enter Try.func25, Try.ntmps25
  go_wp2_with fail
  refine (open_any _ _ _ _ HC.out).mono ?_
  rintro e w1 ⟨rfl, hR1, hb1⟩
  go_wp2_with fail
  refine (l20AnyText_any _ 0 _ (by omega) _ hR1 (by omega)).mono ?_
  rintro e w2 ⟨s, rfl, hs, hR2, hb2⟩
  go_wp2
  go_ret
  exact ⟨s, rfl, hs, hb1.trans (hb2.below hb1.size (Nat.le_refl _))⟩

/-- how wide a text would be -/
def wishOf (s : ByteArray) : Nat := if txtOkB s = true then s.size else 0
theorem implTxtWish (s : ByteArray) (hs : s.size ≤ maxLen) (w : World) : Calls Try.prog 23 #[.string s] w fun e w' => e = .returned (.int .i64 (wishOf s)) ∧ w' = w := by
  unfold wishOf
  have hm := hs
  unfold maxLen at hm
  cases hok : txtOkB s
  all_goals
    go_enter Try.func23, Try.ntmps23
    go_wp2_with (go_at_call 14; refine (implTxtOk _ _ hs).mono ?_; rintro e w' ⟨rfl, rfl⟩; rw [hok])
    go_ret
    exact ⟨rfl, rfl⟩
theorem specTxtWish (s : ByteArray) (hs : s.size ≤ maxLen) (w : World) : Calls Try.prog 27 #[.string s] w fun e w' => e = .returned (.int .i64 (wishOf s)) ∧ w' = w := by
  unfold wishOf
  have hm := hs
  unfold maxLen at hm
  cases hok : txtOkB s
  all_goals
    go_enter Try.func27, Try.ntmps27
    go_wp2_with (go_at_call 15; refine (specTxtOk _ _ hs).mono ?_; rintro e w' ⟨rfl, rfl⟩; rw [hok])
    go_ret
    exact ⟨rfl, rfl⟩
theorem foldl_max_ge (l : List W30) (n : Nat) : n ≤ l.foldl (fun n x => max n x.1.size) n ∧ ∀ x ∈ l, x.1.size ≤ l.foldl (fun n x => max n x.1.size) n := by
  induction l generalizing n with
  | nil => exact ⟨Nat.le_refl _, fun x hx => by cases hx⟩
  | cons y r ih =>
    obtain ⟨h1, h2⟩ := ih (max n y.1.size)
    refine ⟨Nat.le_trans (Nat.le_max_left _ _) h1, fun x hx => ?_⟩
    rcases List.mem_cons.1 hx with rfl | hx
    · exact Nat.le_trans (Nat.le_max_right _ _) h1
    · exact h2 x hx
theorem foldl_max_hit (l : List W30) (n : Nat) : l.foldl (fun n x => max n x.1.size) n = n ∨ ∃ x ∈ l, x.1.size = l.foldl (fun n x => max n x.1.size) n := by
  induction l generalizing n with
  | nil => exact .inl rfl
  | cons y r ih =>
    rw [List.foldl_cons]
    rcases ih (max n y.1.size) with h | ⟨x, hx, h⟩
    · rcases Nat.le_total n y.1.size with hm | hm
      · exact .inr ⟨y, List.mem_cons_self .., by rw [h]; omega⟩
      · exact .inl (by rw [h]; omega)
    · exact .inr ⟨x, List.mem_cons_of_mem _ hx, h⟩
theorem leastOf_ge {l : List W30} {k : Nat} (h : k < l.length) : l[k].1.size ≤ leastOf l := (foldl_max_ge l 0).2 _ (List.getElem_mem h)
/-- whether a word among the first k is as long as that -/
def hasTo (l : List W30) (n k : Nat) : Bool := (decide (l.length = 0) && decide (n = 0)) || (l.take k).any (fun x => decide (x.1.size = n))
theorem hasTo_succ {l : List W30} {n k : Nat} (h : k < l.length) : hasTo l n (k + 1) = (hasTo l n k || decide (l[k].1.size = n)) := by
  unfold hasTo
  rw [List.take_succ_eq_append_getElem h, List.any_append]
  simp [Bool.or_assoc]
theorem hasTo_all (l : List W30) : hasTo l (leastOf l) l.length = true := by
  unfold hasTo
  rw [List.take_length]
  rcases foldl_max_hit l 0 with h | ⟨x, hx, h⟩
  · cases l with
    | nil => simp [leastOf]
    | cons y r =>
      have h1 : y.1.size ≤ leastOf (y :: r) := (foldl_max_ge (y :: r) 0).2 y (List.mem_cons_self ..)
      have h2 : leastOf (y :: r) = 0 := h
      have := y.2
      omega
  · have : l.any (fun x => decide (x.1.size = leastOf l)) = true := List.any_eq_true.2 ⟨x, hx, by simpa [leastOf] using h⟩
    rw [this, Bool.or_true]
theorem words_le (s : ByteArray) (k : Nat) : ∀ x ∈ wordsFrom s k, x.size ≤ s.size := by
  intro x hx
  by_cases h : k < s.size
  · rw [wordsFrom_go h] at hx
    rcases List.mem_cons.1 hx with rfl | hx
    · rw [ByteArray.size_extract]; omega
    · exact words_le s _ x hx
  · rw [wordsFrom_end h] at hx; cases hx
termination_by s.size - k
decreasing_by have := wend_ge s k; omega
theorem least_wish (s : ByteArray) : leastOf (wordsW s) ≤ wishOf s := by
  cases hok : txtOkB s with
  | false => rw [wordsW, if_neg (by rw [hok]; simp)]; exact Nat.zero_le _
  | true =>
    rw [wishOf, if_pos hok]
    rcases foldl_max_hit (wordsW s) 0 with h | ⟨x, hx, h⟩
    · have : leastOf (wordsW s) = 0 := h
      omega
    · have hm : x.1 ∈ wordsFrom s 0 := by rw [← words_val hok]; exact List.mem_map.2 ⟨x, hx, rfl⟩
      have := words_le s 0 _ hm
      have e : leastOf (wordsW s) = x.1.size := h.symm
      omega

set_option maxRecDepth 100000 in
set_option maxHeartbeats 2000000 in
theorem lawTxtLeast (a : Option Addr) (len cap : Nat) (w : World) (h : IsCode w a len cap) :
    Calls Try.prog 8 #[.slice a len cap] w fun e w' => e = .returned (.bool true) ∧ Below w.heap.size w w' := by
  have HC := Hid.intro h
  have hlen : len ≤ maxLen := Nat.le_trans h.1 h.2.1
  unfold maxLen at hlen
  clear h
  by_cases hbig : (1048576 : Int) < (len : Int)
  · go_enter Try.func8, Try.ntmps8
    go_wp2
    go_ret
    exact ⟨rfl, Below.refl _ _⟩
  · go_enter Try.func8, Try.ntmps8
    go_wp2_with fail
    refine (drawTxtLeast_any _ _ _ _ HC.out).mono ?_
    rintro e w1 ⟨s, rfl, hs, hb1⟩
    have K1 := Hid.intro hb1
    have hm : s.size ≤ maxLen := by unfold maxLen; omega
    have HI := Hid.intro (implTxtLeast s hm)
    have HS := Hid.intro (specTxtLeast s hm)
    have HW := Hid.intro (implTxtWords s hm)
    have HX := Hid.intro (implTxtWish s hm)
    have HY := Hid.intro (specTxtWish s hm)
    have hle := least_wish s
    have hwl := wordsW_len s
    generalize wordsW s = l at HI HS HW hle hwl
    have HH := Hid.intro (hasTo_all l)
    have hln := leastOf_le l
    have HG : Hid (∀ k (h : k < l.length), l[k].1.size ≤ leastOf l) := fun k h => leastOf_ge h
    generalize leastOf l = n at HI HS HH HG hle hln
    have hwn : wishOf s ≤ 61 := by unfold wishOf; split <;> omega
    generalize wishOf s = m at HX HY hle hwn
    have hne : (((n : Nat) : Int) != (n : Int)) = false := by simp
    have hme : (((m : Nat) : Int) != (m : Int)) = false := by simp
    clear hb1 HC hm
    go_wp2_with fail
    refine (HI.out _).mono ?_
    rintro e w2 ⟨rfl, hb2⟩
    have K2 := Hid.intro (k_trans K1.out hb2)
    clear hb2
    go_wp2_with fail
    refine (HS.out _).mono ?_
    rintro e w3 ⟨rfl, hb3⟩
    have K3 := Hid.intro (k_trans K2.out hb3)
    clear hb3
    go_wp2_with fail
    refine (HX.out _).mono ?_
    rintro e w4 ⟨rfl, rfl⟩
    go_wp2_with fail
    refine (HY.out _).mono ?_
    rintro e w5 ⟨rfl, rfl⟩
    go_wp2_with fail
    refine (HW.out _).mono ?_
    rintro e w6 ⟨v, rfl, hv, hb6⟩
    have HV := Hid.intro hv
    have K6 := Hid.intro (k_trans K3.out hb6)
    obtain ⟨va, vc, rfl⟩ := words_form hv
    clear hv hb6 HI HS HW HY
    have h00 : ((l.length : Int) == 0) = decide (l.length = 0) := by
      cases hd : decide (l.length = 0) with
      | true => simp at hd; simp [hd]
      | false => simp at hd; simp; exact hd
    have hn0 : ((n : Int) == 0) = decide (n = 0) := by
      cases hd : decide (n = 0) with
      | true => simp at hd; simp [hd]
      | false => simp at hd; simp; exact hd
    have HP : Hid (hasTo l n 0 = (decide (l.length = 0) && decide (n = 0))) := by show _ = _; simp [hasTo]
    cases hl0 : decide (l.length = 0)
    all_goals
      cases hn1 : decide (n = 0)
    all_goals
      rw [hl0] at h00
      rw [hn1] at hn0
      rw [hl0, hn1] at HP
      clear hl0 hn1
      go_wp2_with fail
      go_loop [6, 7] (fun q i => ∃ k : Nat, k ≤ l.length ∧ i = .int .i64 k ∧ q = .bool (hasTo l n k)) (fun _ i => l.length - (intOf i).toNat)
      case atStart => exact ⟨0, Nat.zero_le _, rfl, by rw [HP.out]; rfl⟩
      case round =>
        obtain ⟨k, hk, rfl, rfl⟩ := hrel
        by_cases hlt : k < l.length
        · obtain ⟨g, cap', e', h1, h2, hx⟩ := wordsAt HV.out hlt
          simp only [Value.slice.injEq, true_and] at e'
          obtain ⟨rfl, rfl⟩ := e'
          have HN := Hid.intro (hasTo_succ (n := n) hlt)
          have h3 := l[k].2
          have h4 : ¬ (n : Int) < (l[k].1.size : Int) := by have := HG.out k hlt; omega
          generalize l[k] = x at hx HN h3 h4
          have hxn : ((x.1.size : Int) == (n : Int)) = decide (x.1.size = n) := by
            cases hd : decide (x.1.size = n) with
            | true => simp at hd; simp [hd]
            | false => simp at hd; simp; omega
          unfold maxLen at h2
          cases hh : hasTo l n k
          all_goals
            cases hd : decide (x.1.size = n)
          all_goals
            rw [hh, hd] at HN
            rw [hd] at hxn
            clear hd
            go_wp2
            go_round
            case rel => exact ⟨k + 1, by omega, by go_num, by rw [HN.out]; rfl⟩
            case measure => simp [intOf]; omega
        · obtain rfl : k = l.length := by omega
          rw [HH.out]
          have hle' : (n : Int) ≤ (m : Int) := by omega
          go_wp2_with fail
          refine (HX.out _).mono ?_
          rintro e w7 ⟨rfl, rfl⟩
          go_wp2_with fail
          refine (pwOk_any _).mono ?_
          rintro e w8 ⟨rfl, rfl⟩
          go_wp2
          go_ret
          exact ⟨rfl, K6.out⟩
end Go.Proofs.Ytfkfgmfahoeaoaa
