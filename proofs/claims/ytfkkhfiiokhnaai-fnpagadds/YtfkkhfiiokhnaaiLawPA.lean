/-
  PROVED HERE: the law FnPagAdds returns true at every code that lies in memory.
-/
import Derived.Test.YtfkkhfiiokhnaaiDrawSl
import Derived.Test.YtfkkhfiiokhnaaiPagHI
import Derived.Test.YtfkkhfiiokhnaaiPagHS
import Derived.Test.YtfkkhfiiokhnaaiQuietT
import Derived.Deep.DeepCutAuto
namespace Go.Proofs.Ytfkkhfiiokhnaai
open Go.RowKit Go.BigFrame

theorem hiTo_take (ps : List PgS) (k : Nat) : ∀ j, j ≤ k → hiTo (ps.take k) j = hiTo ps j
  | 0, _ => rfl
  | j + 1, h => by
    have e : (ps.take k).getD j dP = ps.getD j dP := by simp [List.getD, List.getElem?_take_of_lt (show j < k by omega)]
    rw [hiTo, hiTo, e, hiTo_take ps k j (by omega)]
theorem hiTo_drop (ps : List PgS) (k : Nat) : ∀ j, hiTo ps (k + j) = hiTo ps k + hiTo (ps.drop k) j
  | 0 => by simp [hiTo]
  | j + 1 => by
    have e : (ps.drop k).getD j dP = ps.getD (k + j) dP := by simp [List.getD, List.getElem?_drop]
    rw [← Nat.add_assoc, hiTo, hiTo, e, hiTo_drop ps k j]
    omega
theorem high_adds (ps : List PgS) {k : Nat} (hk : k ≤ ps.length) : wrap64 (highP (ps.take k) + highP (ps.drop k)) = highP ps := by
  have e1 : (ps.take k).length = k := by rw [List.length_take]; omega
  unfold highP
  rw [W_addl, W_addr, e1, hiTo_take ps k k (Nat.le_refl _), List.length_drop, ← hiTo_drop ps k]
  congr 2
  omega
theorem PsAt.take {w : World} {z : Nat} {a : Option Addr} {n cap : Nat} {ps : List PgS} (h : PsAt w z (.slice a n cap) ps) {m : Nat} (hm : m ≤ ps.length) : PsAt w z (.slice a m cap) (ps.take m) := by
  obtain ⟨a', cap', hv, h1, h2, h3⟩ := h
  simp only [Value.slice.injEq] at hv
  obtain ⟨rfl, rfl, rfl⟩ := hv
  have hl : (ps.take m).length = m := by rw [List.length_take]; omega
  refine ⟨a, cap, by rw [hl], by omega, h2, fun i hi => ?_⟩
  rw [hl] at hi
  obtain ⟨b, off, h4, h5, h6, h7⟩ := h3 i (by omega)
  refine ⟨b, off, h4, h5, h6, ?_⟩
  have e : (ps.take m).getD i dP = ps.getD i dP := by simp [List.getD, List.getElem?_take_of_lt hi]
  dsimp only
  rw [e]
  exact h7
theorem PsAt.drop {w : World} {z : Nat} {a : Option Addr} {n cap : Nat} {ps : List PgS} (h : PsAt w z (.slice a n cap) ps) {m : Nat} (hm : m ≤ ps.length) : PsAt w z (.slice (if cap = m then a else a.map (·.add (m * 3))) (n - m) (cap - m)) (ps.drop m) := by
  obtain ⟨a', cap', hv, h1, h2, h3⟩ := h
  simp only [Value.slice.injEq] at hv
  obtain ⟨rfl, rfl, rfl⟩ := hv
  have hl : (ps.drop m).length = ps.length - m := List.length_drop
  refine ⟨_, cap - m, by rw [hl], by omega, by omega, fun i hi => ?_⟩
  rw [hl] at hi
  obtain ⟨b, off, h4, h5, h6, h7⟩ := h3 (m + i) (by omega)
  subst h4
  have e : (ps.drop m).getD i dP = ps.getD (m + i) dP := by simp [List.getD, List.getElem?_drop]
  refine ⟨b, off + m * 3, ?_, h5, h6, ?_⟩
  · rw [if_neg (by omega)]
    simp [Addr.add]
  · dsimp only
    rw [e, show off + m * 3 + i * 3 = off + (m + i) * 3 by omega]
    exact h7
theorem one_ps {W : World} {g : Nat} {T : TypeId} (h : W.heap[g]? = some (.cells #[.int .i64 1, .int .i64 2, .int .i64 5] T)) : PsAt W g (.slice (some ⟨g, 0, none⟩) 1 1) [⟨1, 2, 5⟩] := by
  refine ⟨_, 1, rfl, Nat.le_refl _, by unfold maxLen; omega, fun i hi => ⟨g, 0, rfl, (Array.getElem?_eq_some_iff.1 h).1, Nat.le_refl _, ?_⟩⟩
  obtain rfl : i = 0 := by simp at hi; omega
  exact ⟨cellB h, cellB h, cellB h⟩
theorem tmod_nat (m n : Nat) : ∃ k : Nat, k ≤ n ∧ Int.tmod (m : Int) ((n : Int) + 1) = (k : Int) := by
  refine ⟨m % (n + 1), Nat.lt_succ_iff.1 (Nat.mod_lt _ (Nat.succ_pos _)), ?_⟩
  exact (Int.ofNat_tmod m (n + 1)).symm

set_option maxRecDepth 100000 in
set_option maxHeartbeats 2000000 in
theorem lawPagAdds_walk (A : Option Addr) (len cap : Nat) (hlen : len ≤ 1048576) (w : World) (h : IsCode w A len cap) :
    Calls Try.prog 3 #[.slice A len cap] w fun e w' => e = .returned (.bool true) ∧ Below w.heap.size w w' := by
  have hl : ¬ (1048576 : Int) < (len : Int) := by omega
  have hmx : Try.prog.follows .mixedOrders = true := by kernel_rfl
  have HD := Hid.intro h
  clear h
  have HDr : Hid (Calls Try.prog 4 #[.slice A len cap] w fun e w' => ∃ (a : Option Addr) (c : Nat) (l : List PgS), e = .returned (.slice a l.length c) ∧ l.length ≤ 4 ∧ PsAt w' w.heap.size (.slice a l.length c) l ∧ Below w.heap.size w w') := by
    unfold Hid
    go_enter Try.func4, Try.ntmps4
    go_wp2_with fail
    refine (open_any _ _ _ _ HD.out).mono ?_
    rintro e w1 ⟨rfl, hR1, hb1⟩
    have hlt1 := hR1.lt
    go_wp2_with fail
    refine (l20Slices_any _ 0 _ hR1 (by omega)).mono ?_
    rintro e w2 ⟨v, l, rfl, hl4, _, hO2, hR2, hb2⟩
    obtain ⟨aa, cc, rfl, _⟩ := row_form hO2
    have hK : Hid (Below w.heap.size w w2) := hb1.trans (hb2.below (by omega) (by omega))
    have hP : Hid (PsAt w2 w.heap.size (.slice aa l.length cc) l) := hO2.at.base hb1.size
    clear hO2 hb1 hb2 hR1 hR2
    go_wp2
    go_ret
    exact ⟨aa, cc, l, rfl, hl4, hP.out, hK.out⟩
  go_enter Try.func3, Try.ntmps3
  go_wp2_with fail
  refine HDr.out.mono ?_
  rintro e w1 ⟨a, c, ps, rfl, hp4, hP1, hb1⟩
  obtain ⟨k, hk, he⟩ := tmod_nat len ps.length
  have hcap : ps.length ≤ c ∧ c ≤ 9223372036854775807 := by
    obtain ⟨_, _, hv, h1, h2, _⟩ := hP1
    simp only [Value.slice.injEq] at hv
    obtain ⟨_, _, rfl⟩ := hv
    unfold maxLen at h2
    omega
  have HP1 := Hid.intro hP1
  have HB1 := Hid.intro hb1
  have HT1 := Hid.intro (hP1.take hk)
  have HT2 := Hid.intro (hP1.drop hk)
  clear hP1 hb1 HDr HD
  go_wp2_with fail
  refine (implPagHigh _ ps _ HP1.out).mono ?_
  rintro e w2 ⟨rfl, hb2⟩
  have HB2 := Hid.intro (k_trans HB1.out hb2)
  have HP2 := Hid.intro (HP1.out.kept hb2)
  have HT3 := Hid.intro (HT1.out.kept hb2)
  have HT4 := Hid.intro (HT2.out.kept hb2)
  have hsum := high_adds ps hk
  have hne := bw_some w2
  have KS := Hid.intro (fun (p : BW w2) => bw_of (specPagHigh _ ps p.u (HP2.out.kept p.h)))
  have K1 := Hid.intro (fun (p : BW w2) => bw_of (implPagHigh _ (ps.take k) p.u (HT3.out.kept p.h)))
  have K2 := Hid.intro (fun (v : Value) (hv : v = .slice (if c = k then a else a.map (·.add (k * 3))) (ps.length - k) (c - k)) (p : BW w2) => bw_of (implPagHigh v (ps.drop k) p.u (z := w.heap.size) (by rw [hv]; exact HT4.out.kept p.h)))
  clear hb2 HP1 HT1 HT2 HB1 HP2 HT3 HT4
  generalize highP (ps.take k) = n1 at hsum K1
  generalize highP (ps.drop k) = n2 at hsum K2
  generalize highP ps = n at hsum KS ⊢
  have hnn : (n == n) = true := by simp
  have h3 : Hid (highP [⟨1, 2, 5⟩] = 3) := by show wrap64 (0 + (5 - 2)) = 3; rw [W_eq]; rfl
  have hk0 : (0 : Int) ≤ (k : Int) := by omega
  have hk1 : (k : Int) ≤ (c : Int) := by omega
  have hk2 : (k : Int) ≤ (ps.length : Int) := by omega
  have hkn : (k : Int).toNat = k := by simp
  go_upto_region 6 with fail
  by_cases hck : c = k
  case pos =>
    subst hck
    simp only [if_true, Nat.sub_self] at K2
    refine wp_region_tail 19 4 hmx (by rfl) (by rfl) (by kernel_rfl) (by kernel_rfl) (by kernel_rfl) ?_
    simp only [List.take_succ_cons, List.take_zero]
    repeat (go_big_quiet_step (first | (go_at_call 6; refine KS.out _)))
    go_big_quiet_step (first | (go_at_call 5; refine K1.out _))
    repeat (go_big_quiet_step (first | (go_at_call 6; refine KS.out _)))
    go_big_quiet_step (first | (go_at_call 5; refine K2.out _ (by first | (simp; done) | (simp; omega)) _))
    repeat (go_big_quiet_step (first | (go_at_call 6; refine KS.out _)))
    refine wpQuiet_nil ?_
    intro W5 hw'
    obtain ⟨⟨Wx, hW5⟩, hw''⟩ := hw'
    subst hw''
    have HB5 := Hid.intro (k_alloc (k_trans HB2.out hW5) (.cells #[.int .i64 1, .int .i64 2, .int .i64 5] 27))
    have HI5 := Hid.intro (one_ps (newestB W5 (.cells #[.int .i64 1, .int .i64 2, .int .i64 5] 27)))
    clear KS K1 K2 hne hW5 HB2
    rw [if_pos (by rfl)]
    go_simp
    refine wpAny_ready (rs := [20]) (by kernel_rfl) (by simp) ?_
    refine AllReady.cons rfl (fun K hK => ?_) AllReady.nil
    go_simp
    go_wp2_with (go_at_call 5; refine (implPagHigh _ [⟨1, 2, 5⟩] _ HI5.out).mono ?_; rw [h3.out]; rintro e w6 ⟨rfl, hb6⟩; have HB6 := Hid.intro (k_trans HB5.out hb6); clear hb6)
    refine wpAny_ready (rs := [21]) (by kernel_rfl) (by simp) ?_
    refine AllReady.cons rfl (fun K hK => ?_) AllReady.nil
    go_simp
    refine hK _ _ ?_
    clear hK K
    refine wpAny_ready (rs := [22]) (by kernel_rfl) (by simp) ?_
    refine AllReady.cons rfl (fun K hK => ?_) AllReady.nil
    go_simp
    refine hK _ _ ?_
    clear hK K
    refine wpAny_ready (rs := [23]) (by kernel_rfl) (by simp) ?_
    refine AllReady.cons rfl (fun K hK => ?_) AllReady.nil
    go_simp
    refine hK _ _ ?_
    clear hK K
    refine wpAny_done (by kernel_rfl) ?_ _
    go_wp2
    go_ret
    exact ⟨rfl, HB6.out⟩
  case neg =>
    simp only [if_neg hck] at K2
    refine wp_region_tail 19 4 hmx (by rfl) (by rfl) (by kernel_rfl) (by kernel_rfl) (by kernel_rfl) ?_
    simp only [List.take_succ_cons, List.take_zero]
    repeat (go_big_quiet_step (first | (go_at_call 6; refine KS.out _)))
    go_big_quiet_step (first | (go_at_call 5; refine K1.out _))
    repeat (go_big_quiet_step (first | (go_at_call 6; refine KS.out _)))
    go_big_quiet_step (first | (go_at_call 5; refine K2.out _ (by first | (simp; done) | (simp; omega)) _))
    repeat (go_big_quiet_step (first | (go_at_call 6; refine KS.out _)))
    refine wpQuiet_nil ?_
    intro W5 hw'
    obtain ⟨⟨Wx, hW5⟩, hw''⟩ := hw'
    subst hw''
    have HB5 := Hid.intro (k_alloc (k_trans HB2.out hW5) (.cells #[.int .i64 1, .int .i64 2, .int .i64 5] 27))
    have HI5 := Hid.intro (one_ps (newestB W5 (.cells #[.int .i64 1, .int .i64 2, .int .i64 5] 27)))
    clear KS K1 K2 hne hW5 HB2
    rw [if_pos (by rfl)]
    go_simp
    refine wpAny_ready (rs := [20]) (by kernel_rfl) (by simp) ?_
    refine AllReady.cons rfl (fun K hK => ?_) AllReady.nil
    go_simp
    go_wp2_with (go_at_call 5; refine (implPagHigh _ [⟨1, 2, 5⟩] _ HI5.out).mono ?_; rw [h3.out]; rintro e w6 ⟨rfl, hb6⟩; have HB6 := Hid.intro (k_trans HB5.out hb6); clear hb6)
    refine wpAny_ready (rs := [21]) (by kernel_rfl) (by simp) ?_
    refine AllReady.cons rfl (fun K hK => ?_) AllReady.nil
    go_simp
    refine hK _ _ ?_
    clear hK K
    refine wpAny_ready (rs := [22]) (by kernel_rfl) (by simp) ?_
    refine AllReady.cons rfl (fun K hK => ?_) AllReady.nil
    go_simp
    refine hK _ _ ?_
    clear hK K
    refine wpAny_ready (rs := [23]) (by kernel_rfl) (by simp) ?_
    refine AllReady.cons rfl (fun K hK => ?_) AllReady.nil
    go_simp
    refine hK _ _ ?_
    clear hK K
    refine wpAny_done (by kernel_rfl) ?_ _
    go_wp2
    go_ret
    exact ⟨rfl, HB6.out⟩

theorem lawPagAdds (a : Option Addr) (len cap : Nat) (w : World) (h : IsCode w a len cap) :
    Calls Try.prog 3 #[.slice a len cap] w fun e w' => e = .returned (.bool true) ∧ Below w.heap.size w w' := by
  by_cases hl : len ≤ 1048576
  · exact lawPagAdds_walk a len cap hl w h
  · have hl' : (1048576 : Int) < (len : Int) := by omega
    clear h
    go_enter Try.func3, Try.ntmps3
    go_wp2
    go_ret
    exact ⟨rfl, Below.refl _ _⟩
end Go.Proofs.Ytfkkhfiiokhnaai
