/-
  PROVED HERE: the law FnTxtJoin returns true at every code that lies in memory.
-/
import Derived.Test.YtgnaaeonklongaaDrawTxt
import Derived.Test.YtgnaaeonklongaaJoinI
import Derived.Laws.AppendOwn
namespace Go.Proofs.Ytgnaaeonklongaa
open Go.RowKit

theorem infoSj : (Try.prog.info? 9).map (fun i => (i.zero, i.size, i.bytes)) = some (some (Value.string ⟨#[]⟩), 1, 16) := by kernel_rfl
theorem bk_row {r : Nat} {w w' : World} {base n : Nat} {e : TypeId} {v : Value} {xs : List Value} (h : w.ownsRow base e 1 v n xs) (k : Bk r w w') (hr : r < base) : w'.ownsRow base e 1 v n xs :=
  ⟨h.1, h.2.elim Or.inl (fun ⟨g, cap, cur, hv, hg, hc, q⟩ => Or.inr ⟨g, cap, cur, hv, hg, (k.block g (Array.getElem?_eq_some_iff.1 hc).1 (by omega)).trans hc, q⟩)⟩
theorem strs_of_row {w : World} {B : Nat} {v : Value} {l : List ByteArray} (h : w.ownsRow B 9 1 v l.length (l.map Value.string)) (hs : ∀ x ∈ l, x.size ≤ 61) : StrsAt w B v l := by
  unfold StrsAt
  rcases h.2 with ⟨hv, h0⟩ | ⟨g, cap, cur, hv, hb, hg, h1, h2, h3, h4⟩
  · exact ⟨none, 0, by rw [h0]; exact hv, by omega, Nat.zero_le _, fun i hi => by omega⟩
  · refine ⟨some ⟨g, 0, none⟩, cap, hv, h1, h2, fun i hi => ⟨g, 0, rfl, (Array.getElem?_eq_some_iff.1 hg).1, hb, ?_, ?_⟩⟩
    · have : cur.toList[i]? = (l.map Value.string)[i]? := by rw [← h4, List.getElem?_take_of_lt (by omega)]
      rw [Nat.zero_add, Nat.mul_one, cellB hg, ← Array.getElem?_toList, this]
      simp [List.getD, hi]
    · have := hs l[i] (List.getElem_mem hi)
      unfold maxLen
      simp [List.getD, hi]
      omega

set_option maxRecDepth 100000 in
set_option maxHeartbeats 1000000 in
theorem drawTxtJoin_any (a : Option Addr) (len cap : Nat) (w : World) (h : IsCode w a len cap) :
    Calls Try.prog 18 #[.slice a len cap] w fun e w' => ∃ (v : Value) (ss : List ByteArray), e = .returned v ∧ ss.length ≤ 4 ∧ (∀ x ∈ ss, x.size ≤ 61) ∧ StrsAt w' w.heap.size v ss ∧ Below w.heap.size w w' := by
  obtain ⟨i0, hi, hz0, hz1, hz2⟩ := info_parts infoSj
  have HC := Hid.intro h
  clear h
  go_enter Try.func18, Try.ntmps18
  go_wp2_with fail
  refine (open_any _ _ _ _ HC.out).mono ?_
  rintro e w1 ⟨rfl, hR1, hb1⟩
  have hr1 := hR1.lt
  go_wp2_with fail
  refine (pick_any _ 0 _ _ (hR1.alloc _) (by omega)).mono ?_
  rintro e w2 ⟨m0, rfl, hm0, hR2, hb2⟩
  obtain ⟨m1, m2⟩ := hm0 (by omega)
  obtain ⟨M, rfl⟩ := Int.eq_ofNat_of_zero_le m1
  have O2 := Hid.intro (bk_row (World.ownsRow_made (base := w.heap.size + 1) (e := 9) (size := 1) w1 #[] 0 (by omega) (Nat.zero_le _) rfl) hb2 (Nat.lt_succ_self _))
  have R2 := Hid.intro hR2
  have K2 := Hid.intro (hb1.trans (((k_alloc (Below.refl w1.heap.size w1) (.cells #[] 9)).mono hb1.size).trans (hb2.below (by simp; have := hb1.size; omega) (Nat.le_refl _))))
  clear hR1 hb1 hR2 hb2 hm0 m1
  go_wp2_with fail
  go_loopw [4, 5] (fun o q W => ∃ (m : Nat) (ss : List ByteArray), q = .int .i64 m ∧ m + ss.length ≤ 4 ∧ Hid (∀ x ∈ ss, x.size ≤ 61) ∧ Hid (W.ownsRow (w.heap.size + 1) 9 1 o ss.length (ss.map Value.string)) ∧ Hid (Rd W w.heap.size (1 + 9 * ss.length)) ∧ Hid (Below w.heap.size w W)) (fun _ q _ => (intOf q).toNat)
  case atStart => exact ⟨M, [], rfl, by simp; omega, fun x hx => (by cases hx), O2.out, R2.out, K2.out⟩
  case round =>
    obtain ⟨m, ss, rfl, hms, HS, HO, HR, HB⟩ := hrel
    by_cases hm : 0 < m
    · have hm' : (0 : Int) < (m : Int) := by omega
      have hlt := HR.out.lt
      go_wp2_with fail
      refine (l20AnyText_any _ _ _ (by omega) _ HR.out (by omega)).mono ?_
      rintro e w3 ⟨s, rfl, hs, hR3, hb3⟩
      have hO3 := bk_row HO.out hb3 (Nat.lt_succ_self _)
      have hB3 := HB.out.trans (hb3.below HB.out.size (Nat.le_refl _))
      have hsz := hb3.size
      go_wp2_with (at_builtin; refine wpList_append_own _ rfl _ _ 24 rfl (w.heap.size + 1) 9 i0 (.string ⟨#[]⟩) 1 16 Try.underlying24 hi hz0 hz1 hz2 rfl (by decide) _ _ _ rfl (hO3.alloc _) ⟨w3.heap.size, 0, none⟩ 1 1 [.string s] rfl rfl ?c1 ?c2 ?c3 ?c4 ?c5 ?_)
      case c1 =>
        intro i u hi
        match i, hi with
        | 0, hi => simp at hi; subst hi; simp [Addr.add]
      case c2 => intro u hu; simp at hu; subst hu; rfl
      case c3 => unfold maxLen; omega
      case c4 => omega
      case c5 => simp; omega
      intro v' w4 hown' hgrow' _
      have HR4 : Hid (Rd w4 w.heap.size (1 + 9 * (ss ++ [s]).length)) := by
        have e : 1 + 9 * (ss ++ [s]).length = 1 + 9 * ss.length + 9 := by simp; omega
        show Rd w4 _ _
        rw [e]
        refine (hR3.alloc (.cells #[.string s] 9)).keep (fun k hk => hgrow'.block k (by simp; omega) (fun hb => ?_))
        have := (hO3.lt k hb.symm).1
        omega
      have HB4 := Hid.intro ((k_alloc hB3 (.cells #[.string s] 9)).grown hgrow' (by have := hB3.size; simp; omega) (fun b hb => by have := (hO3.lt b hb).1; omega))
      have HO4 : Hid (w4.ownsRow (w.heap.size + 1) 9 1 v' (ss ++ [s]).length ((ss ++ [s]).map Value.string)) := by
        show World.ownsRow _ _ _ _ _ _ _
        rw [List.length_append, List.map_append]; exact hown'
      have HS4 : Hid (∀ x ∈ ss ++ [s], x.size ≤ 61) := fun x hx => by
        rcases List.mem_append.1 hx with hx | hx
        · exact HS.out x hx
        · simp at hx; subst hx; exact hs
      obtain ⟨g', cap', rfl⟩ := Joins.ownsRow_form hown' (by omega)
      clear hown' hgrow' hO3 hB3 hR3 hb3
      have hms4 : (m - 1) + (ss ++ [s]).length ≤ 4 := by simp; omega
      go_wp2
      go_roundw
      case rel => exact ⟨m - 1, ss ++ [s], by go_num, hms4, HS4, HO4, HR4, HB4⟩
      case measure => simp [intOf]; omega
    · obtain rfl : m = 0 := by omega
      have hform : ∃ aa cc, u4 = .slice aa ss.length cc := by
        rcases HO.out.2 with ⟨hv, h0⟩ | ⟨g, cap', cur, hv, _⟩
        · exact ⟨none, 0, by rw [h0]; exact hv⟩
        · exact ⟨_, _, hv⟩
      obtain ⟨aa, cc, rfl⟩ := hform
      go_wp2
      go_ret
      refine ⟨_, ss, rfl, by omega, HS.out, ?_, HB.out⟩
      have := strs_of_row HO.out HS.out
      exact At.mono this (Nat.le_refl _) (Nat.le_succ _) (fun _ _ _ _ _ _ he => he)

theorem joinTo_len (ss : List ByteArray) : ∀ k, k ≤ ss.length → (joinTo ss k).size = lnTo ss k + (k - 1)
  | 0, _ => by simp [joinTo, lnTo]; rfl
  | k + 1, h => by
    have ih := joinTo_len ss k (by omega)
    have hs := lnTo_succ (ss := ss) (k := k) (by omega)
    rw [joinTo]
    split
    · rename_i h0
      subst h0
      have : lnTo ss 0 = 0 := by simp [lnTo]
      omega
    · rw [ByteArray.size_append, ByteArray.size_append]
      have : (ByteArray.mk #[32]).size = 1 := rfl
      omega
theorem lnTo_le61 {ss : List ByteArray} (h : ∀ x ∈ ss, x.size ≤ 61) : ∀ k, k ≤ ss.length → lnTo ss k ≤ 61 * k
  | 0, _ => by simp [lnTo]
  | k + 1, hk => by
    have ih := lnTo_le61 h k (by omega)
    rw [lnTo_succ (by omega)]
    have : (ss.getD k dS).size ≤ 61 := by
      have hlt : k < ss.length := by omega
      have := h ss[k] (List.getElem_mem hlt)
      simpa [List.getD, hlt] using this
    omega
theorem strsAB (w : World) : StrsAt (w.alloc (.cells #[.string ⟨#[97]⟩, .string ⟨#[98]⟩] 9)) 0 (.slice (some ⟨w.heap.size, 0, none⟩) 2 2) [⟨#[97]⟩, ⟨#[98]⟩] := by
  refine ⟨some ⟨w.heap.size, 0, none⟩, 2, rfl, Nat.le_refl _, by unfold maxLen; omega, fun i hi => ⟨w.heap.size, 0, rfl, by simp, Nat.zero_le _, ?_, ?_⟩⟩
  · rw [cellB (newestB _ _)]
    match i, hi with
    | 0, _ => rfl
    | 1, _ => rfl
  · match i, hi with
    | 0, _ => unfold maxLen; decide
    | 1, _ => unfold maxLen; decide
theorem joinAB (w : World) : Calls Try.prog 17 #[.slice (some ⟨w.heap.size, 0, none⟩) 2 2] (w.alloc (.cells #[.string ⟨#[97]⟩, .string ⟨#[98]⟩] 9)) fun e w' => e = .returned (.string ⟨#[97, 32, 98]⟩) ∧ Below w.heap.size w w' :=
  (implTxtJoin _ _ (by decide) _ (strsAB w)).mono (fun _ _ ⟨he, hb⟩ => ⟨he, k_trans (k_alloc (Below.refl _ _) _) hb⟩)

set_option maxRecDepth 100000 in
set_option maxHeartbeats 2000000 in
theorem lawTxtJoin (a : Option Addr) (len cap : Nat) (w : World) (h : IsCode w a len cap) :
    Calls Try.prog 4 #[.slice a len cap] w fun e w' => e = .returned (.bool true) ∧ Below w.heap.size w w' := by
  have HC := Hid.intro h
  have hlen : len ≤ maxLen := Nat.le_trans h.1 h.2.1
  unfold maxLen at hlen
  clear h
  by_cases hbig : (1048576 : Int) < (len : Int)
  · go_enter Try.func4, Try.ntmps4
    go_wp2
    go_ret
    exact ⟨rfl, Below.refl _ _⟩
  · go_enter Try.func4, Try.ntmps4
    go_wp2_with fail
    refine (drawTxtJoin_any _ _ _ _ HC.out).mono ?_
    rintro e w1 ⟨v, ss, rfl, hsl, hsx, hst, hb1⟩
    obtain ⟨av, cv, rfl, _⟩ := At.form hst
    have K1 := Hid.intro hb1
    have S1 := Hid.intro hst
    have ht : totS ss ≤ 1048576 := by have := lnTo_le61 hsx ss.length (Nat.le_refl _); unfold totS; omega
    have HJ := Hid.intro (joinTo_len ss ss.length (Nat.le_refl _))
    have HX := Hid.intro hsx
    have HL : Hid (∀ k, k ≤ ss.length → lnTo ss k ≤ 61 * k) := lnTo_le61 hsx
    clear hb1 hst hsx HC
    have HI := Hid.intro (implTxtJoin (.slice av ss.length cv) ss ht)
    have HP := Hid.intro (specTxtJoin (.slice av ss.length cv) ss ht)
    generalize joinTo ss ss.length = y at HI HP HJ
    go_wp2_with fail
    refine (HI.out _ S1.out).mono ?_
    rintro e w2 ⟨rfl, hb2⟩
    have K2 := Hid.intro (k_trans K1.out hb2)
    have S2 := Hid.intro (S1.out.kept hb2)
    clear hb2
    go_wp2_with fail
    refine (HP.out _ S2.out).mono ?_
    rintro e w3 ⟨rfl, rfl⟩
    clear HI HP
    go_wp2_with fail
    go_loop [5, 6] (fun n i => ∃ k : Nat, k ≤ ss.length ∧ i = .int .i64 k ∧ n = .int .i64 ((lnTo ss k + (k - 1) : Nat) : Int)) (fun _ i => ss.length - (intOf i).toNat)
    case atStart => exact ⟨0, Nat.zero_le _, rfl, by simp [lnTo]⟩
    case round =>
      obtain ⟨k, hk, rfl, rfl⟩ := hrel
      by_cases hlt : k < ss.length
      · obtain ⟨b, off, cap', e', hc1, hc2, hbl, hx, hs⟩ := At.get S2.out hlt
        rw [Nat.mul_one] at hx
        simp only [Value.slice.injEq, true_and] at e'
        obtain ⟨rfl, rfl⟩ := e'
        have HS := Hid.intro (lnTo_succ hlt)
        have h5 := HL.out k hk
        have h6 := HL.out (k + 1) hlt
        rw [HS.out] at h6
        generalize ss.getD k dS = x at hx hs HS h6
        unfold maxLen at hc2
        clear hs
        by_cases hk0 : k = 0
        · subst hk0
          rw [Nat.add_zero] at hx
          go_wp2
          go_round
          case rel => exact ⟨0 + 1, by omega, by go_num, congrArg (Value.int .i64) (by rw [HS.out]; omega)⟩
          case measure => simp [intOf]; omega
        · have hp : (0 : Int) < (k : Int) := by omega
          go_wp2
          go_round
          case rel => exact ⟨k + 1, by omega, by go_num, congrArg (Value.int .i64) (by rw [HS.out]; omega)⟩
          case measure => simp [intOf]; omega
      · obtain rfl : k = ss.length := by omega
        rw [← HJ.out]
        have heq : ((y.size : Int) == (y.size : Int)) = true := by simp
        go_wp2_with fail
        refine (joinAB _).mono ?_
        rintro e w4 ⟨rfl, hb4⟩
        have K4 := Hid.intro (k_trans K2.out hb4)
        clear hb4
        go_wp2
        go_ret
        exact ⟨rfl, K4.out⟩
end Go.Proofs.Ytgnaaeonklongaa
