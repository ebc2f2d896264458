/-
  PROVED HERE: the law FnWidAt returns true at every code that lies in memory.
-/
import Derived.Test.YtgcobajekffmoafB2
import Derived.Deep.LoopGhost
namespace Go.Proofs.Ytgcobajekffmoaf
open Go.RowKit Go.BigFrame

theorem sum_small {l : List Int} (h : ∀ x ∈ l, 0 ≤ x ∧ x ≤ 20) : ∀ k, k ≤ l.length → 0 ≤ sumTo l k ∧ sumTo l k ≤ 20 * (k : Int)
  | 0, _ => by simp [sumTo]
  | k + 1, hk => by
    have h1 := sum_small h k (by omega)
    have h2 := h l[k] (List.getElem_mem (by omega))
    have e : l.getD k 0 = l[k] := by simp [List.getD, show k < l.length by omega]
    rw [sumTo_succ (by omega), e]
    omega
theorem gap_small {gap : Int} (h : 0 ≤ gap ∧ gap ≤ 4) {k : Nat} (hk : k ≤ 6) : 0 ≤ gap * (k : Int) ∧ gap * (k : Int) ≤ 24 :=
  ⟨Int.mul_nonneg h.1 (by omega), Int.le_trans (Int.mul_le_mul h.2 (show (k : Int) ≤ 6 by omega) (by omega) (by omega)) (by omega)⟩
theorem at_small {l : List Int} (h : ∀ x ∈ l, 0 ≤ x ∧ x ≤ 20) (hl : l.length ≤ 6) {gap : Int} (hg : 0 ≤ gap ∧ gap ≤ 4) {k : Nat} (hk : k ≤ l.length) : atV l gap k = sumTo l k + gap * (k : Int) ∧ 0 ≤ atV l gap k ∧ atV l gap k ≤ 200 := by
  have h1 := sum_small h k hk
  have h2 := gap_small hg (show k ≤ 6 by omega)
  have e : atV l gap k = sumTo l k + gap * (k : Int) := by
    rw [atV, aheadN_nat l hk, W_small (by omega)]
  rw [e]
  omega
theorem get_small {l : List Int} (h : ∀ x ∈ l, 0 ≤ x ∧ x ≤ 20) {k : Nat} (hk : k < l.length) : 0 ≤ l.getD k 0 ∧ l.getD k 0 ≤ 20 := by
  have e : l.getD k 0 = l[k] := by simp [List.getD, hk]
  rw [e]; exact h _ (List.getElem_mem hk)
theorem end_small {l : List Int} (h : ∀ x ∈ l, 0 ≤ x ∧ x ≤ 20) (hl : l.length ≤ 6) {gap : Int} (hg : 0 ≤ gap ∧ gap ≤ 4) {k : Nat} (hk : k < l.length) : endV l gap k = atV l gap k + l.getD k 0 ∧ 0 ≤ endV l gap k ∧ endV l gap k ≤ 300 := by
  have h1 := at_small h hl hg (show k ≤ l.length by omega)
  have h2 := get_small h hk
  have e : endV l gap k = atV l gap k + l.getD k 0 := by
    rw [endV, if_pos (inB_true (by omega) (by omega)), Int.toNat_natCast, W_small (by omega)]
  rw [e]
  omega
theorem at_end {l : List Int} (h : ∀ x ∈ l, 0 ≤ x ∧ x ≤ 20) (hl : l.length ≤ 6) {gap : Int} (hg : 0 ≤ gap ∧ gap ≤ 4) {k : Nat} (hk : k + 1 < l.length) : atV l gap ((k + 1 : Nat) : Int) = endV l gap k + gap := by
  rw [(end_small h hl hg (show k < l.length by omega)).1, (at_small h hl hg (show k ≤ l.length by omega)).1, (at_small h hl hg (show k + 1 ≤ l.length by omega)).1, sumTo_succ (by omega), show gap * ((k + 1 : Nat) : Int) = gap * (k : Int) + gap by rw [show ((k + 1 : Nat) : Int) = (k : Int) + 1 by omega, Int.mul_add, Int.mul_one]]
  omega
theorem at5 : atV [5] 2 1 = 7 := by
  have h := (at_small (l := [5]) (by simp) (by simp) (gap := 2) (by omega) (k := 1) (by simp)).1
  simpa [sumTo] using h
theorem one_ints {w : World} {g : Nat} {x : Int} (h : w.heap[g]? = some (.cells #[.int .i64 x] 3)) : IntsAt w (.slice (some ⟨g, 0, none⟩) 1 1) [x] :=
  ⟨_, _, rfl, Nat.le_refl _, by unfold maxLen; omega, fun i hi => ⟨g, 0, rfl, (Array.getElem?_eq_some_iff.1 h).1, by
    obtain rfl : i = 0 := by simp at hi; omega
    exact cellB h⟩⟩

theorem implWidEndB (v : Value) (l : List Int) (gap col : Int) (w : World) (h : IntsAt w v l) :
    Calls Try.prog 8 #[v, .int .i64 gap, .int .i64 col] w fun e w' => e = .returned (.int .i64 (endV l gap col)) ∧ Below w.heap.size w w' :=
  (implWidEnd v l gap col w h).mono (fun _ _ ⟨h1, n, h2⟩ => ⟨h1, h2 ▸ k_drewN (Below.refl _ _) n⟩)
set_option maxRecDepth 100000 in
set_option maxHeartbeats 4000000 in
theorem lawWidAt_walk (A : Option Addr) (len cap : Nat) (hlen : len ≤ 1048576) (w : World) (h : IsCode w A len cap) :
    Calls Try.prog 3 #[.slice A len cap] w fun e w' => e = .returned (.bool true) ∧ Below w.heap.size w w' := by
  have hl : ¬ (1048576 : Int) < (len : Int) := by omega
  have hmx : Try.prog.follows .mixedOrders = true := by kernel_rfl
  have HD := Hid.intro h
  clear h
  go_enter Try.func3, Try.ntmps3
  go_wp2_with fail
  refine (drawWidAt_any _ _ _ _ HD.out).mono ?_
  rintro e w1 ⟨aa, cc, l, gap, col, rfl, hll, hS, hg, hcol, hI, hb1⟩
  have H := Hid.intro hI
  have HB := Hid.intro hb1
  have HS := Hid.intro hS
  have KA := Hid.intro (fun n c => implWidAt _ l gap c (w1.drewN n) H.out)
  have KE := Hid.intro (fun n c => implWidEnd _ l gap c (w1.drewN n) H.out)
  clear hI hb1 hS HD
  have a1 : (atV l gap col != atV l gap col) = false := by simp
  have a2 : (endV l gap col != endV l gap col) = false := by simp
  go_wp2_with fail
  refine (KA.out 0 _).mono ?_
  rintro e w2 ⟨rfl, rfl⟩
  go_wp2_with fail
  refine (specWidAt _ l gap col (w1.drewN 0) H.out).mono ?_
  rintro e w2 ⟨rfl, rfl⟩
  go_wp2_with fail
  refine (KE.out 0 _).mono ?_
  rintro e w2 ⟨rfl, n2, rfl⟩
  go_wp2_with fail
  refine (specWidEnd _ l gap col ((w1.drewN 0).drewN n2) H.out).mono ?_
  rintro e w2 ⟨rfl, n3, rfl⟩
  go_wp2_with fail
  go_loopw [6] (fun i W => ∃ k : Nat, i = .int .i64 k ∧ k ≤ l.length ∧ Hid (Below w1.heap.size w1 W)) (fun i _ => l.length - (intOf i).toNat)
  case atStart => exact ⟨0, rfl, Nat.zero_le _, k_drewN (Below.refl _ _) _⟩
  case round =>
    clear a1 a2 KA KE
    obtain ⟨k, rfl, hk, HW⟩ := hrel
    by_cases hlt : k < l.length
    case neg =>
      obtain rfl : k = l.length := by omega
      have HZ := (at_small HS.out hll hg (Nat.zero_le _)).1
      have hz : (atV l gap 0 == 0) = true := by
        rw [show atV l gap 0 = atV l gap ((0 : Nat) : Int) from rfl, HZ]
        simp [sumTo]
      have h7 : Hid (atV [5] 2 1 = 7) := Hid.intro at5
      have K0 := Hid.intro (implWidAt _ l gap 0 wr (H.out.kept HW.out))
      clear HZ
      go_wp2_with fail
      refine K0.out.mono ?_
      rintro e w2 ⟨rfl, rfl⟩
      go_wp2_with fail
      refine (implWidAt _ [5] 2 1 _ (one_ints (newestB _ _))).mono ?_
      rw [h7.out]
      rintro e w2 ⟨rfl, rfl⟩
      go_wp2
      go_ret
      exact ⟨rfl, k_alloc (HB.out.trans (HW.out.mono HB.out.size)) _⟩
    have KA2 := Hid.intro (fun (p : BW wr) (c : Int) => bw_same (implWidAt _ l gap c p.u (H.out.kept (k_trans HW.out p.h))))
    have KE2 := Hid.intro (fun (p : BW wr) (c : Int) => bw_of (implWidEndB _ l gap c p.u (H.out.kept (k_trans HW.out p.h))))
    have hE := end_small HS.out hll hg hlt
    have hA := at_small HS.out hll hg (show k ≤ l.length by omega)
    obtain ⟨b, off, cap', e', hc1, hc2, hbl, hx⟩ := (H.out.kept HW.out).get hlt
    simp only [Value.slice.injEq, true_and] at e'
    obtain ⟨rfl, rfl⟩ := e'
    unfold maxLen at hc2
    have hne := bw_some wr
    have hxb := get_small HS.out hlt
    by_cases h0 : k = 0
    case pos =>
      subst h0
      have hee := hE.1
      have hEb := hE.2
      have hAb := hA.2
      rw [Nat.add_zero] at hx
      rw [Int.natCast_zero] at hee hEb hAb
      have K1 := Hid.intro (fun p => KA2.out p 0)
      have K2 := Hid.intro (fun p => KE2.out p 0)
      rw [hee] at K2
      clear hee hE hA KA2 KE2
      generalize l.getD 0 0 = x at hx hxb K2
      generalize atV l gap 0 = P at K1 K2 hAb
      have h1 : (P + x - P != x) = false := by simp; omega
      have g0 := bw_cell (a := ⟨b, off, none⟩) hbl hx
      go_wp2_with fail
      refine wp_region_quiet_below hmx (by kernel_rfl) ?_
      repeat (go_big_quiet_step (first | (go_at_call 6; refine K1.out _) | (go_at_call 8; refine K2.out _)))
      refine wpQuiet_nil ?_
      intro W5 hw'
      obtain ⟨⟨Wx, hW5⟩, hw''⟩ := hw'
      subst hw''
      go_wp2
      go_roundw
      case rel => exact ⟨1, by go_num, by omega, k_trans HW.out hW5⟩
      case measure => simp [intOf]; omega
    case neg =>
      have hk0 : decide ((0 : Int) < (k : Int)) = true := by simp; omega
      have hk00 : decide (0 < k) = true := by simp; omega
      have hk1 : ((k - 1 : Nat) : Int) = (k : Int) - 1 := by omega
      have hae := at_end HS.out hll hg (show (k - 1) + 1 < l.length by omega)
      have hEm := (end_small HS.out hll hg (show k - 1 < l.length by omega)).2
      rw [show k - 1 + 1 = k by omega] at hae
      rw [hk1] at hae hEm
      have hEb := hE.2
      have hAb := hA.2
      have h1 : (endV l gap (k : Int) - atV l gap (k : Int) != l.getD k 0) = false := by rw [hE.1]; simp; omega
      have h2 : (atV l gap (k : Int) != endV l gap ((k : Int) - 1) + gap) = false := by rw [hae]; simp
      clear hk1 hae hE hA
      generalize l.getD k 0 = x at hx h1 hxb
      have g0 := bw_cell (a := ⟨b, off + k, none⟩) hbl hx
      go_wp2_with fail
      refine wp_region_quiet_below hmx (by kernel_rfl) ?_
      repeat (go_big_quiet_step (first | (go_at_call 6; refine KA2.out _ _) | (go_at_call 8; refine KE2.out _ _)))
      refine wpQuiet_nil ?_
      intro W5 hw'
      obtain ⟨⟨Wx, hW5⟩, hw''⟩ := hw'
      subst hw''
      go_wp2
      go_roundw
      case rel => exact ⟨k + 1, by go_num, by omega, k_trans HW.out hW5⟩
      case measure => simp [intOf]; omega

theorem lawWidAt (a : Option Addr) (len cap : Nat) (w : World) (h : IsCode w a len cap) :
    Calls Try.prog 3 #[.slice a len cap] w fun e w' => e = .returned (.bool true) ∧ Below w.heap.size w w' := by
  by_cases hl : len ≤ 1048576
  · exact lawWidAt_walk a len cap hl w h
  · have hl' : (1048576 : Int) < (len : Int) := by omega
    clear h
    go_enter Try.func3, Try.ntmps3
    go_wp2
    go_ret
    exact ⟨rfl, Below.refl _ _⟩
end Go.Proofs.Ytgcobajekffmoaf
