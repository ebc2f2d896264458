/-
  PROVED HERE: l20Numbers and DrawWidAt draw small numbers; nothing that was in memory is turned but the reader's own place. Also: what the program's within and the model's l1In answer at every argument: the Bool 'inB'; nothing that was in memory is turned. Also: small facts on lists of numbers and their sums. Also: small facts on sums that wrap round, for the texts on where columns begin and end. Also: what the program's sumOf, WidAt and WidEnd answer of any list of numbers in memory; nothing in memory is turned. Also: what the model's WidAt and WidEnd answer of any list of numbers in memory; nothing in memory is turned. Also: a region that draws its order, whose own operations only read and whose callees turn nothing that was in memory, may be walked once, in its text's order.
-/
import Derived.Test.YtgcobajekffmoafB1
import Derived.Deep.RegionWith
import Derived.Test.YtgcobajekffmoafRows
import Derived.WalkKit
import Derived.ProofKit
import Derived.WalkLawsBesides
import Derived.WalkSpells
import Derived.Below
import Derived.Deep.QuietTactic
import Derived.BigQuiet
namespace Go.Proofs.Ytgcobajekffmoaf
open Go.RowKit

theorem bk_rowI {r : Nat} {w w' : World} {base n : Nat} {e : TypeId} {v : Value} {xs : List Value} (h : w.ownsRow base e 1 v n xs) (k : Bk r w w') (hr : r < base) : w'.ownsRow base e 1 v n xs :=
  ⟨h.1, h.2.elim Or.inl (fun ⟨g, cap, cur, hv, hg, hc, q⟩ => Or.inr ⟨g, cap, cur, hv, hg, (k.block g (Array.getElem?_eq_some_iff.1 hc).1 (by omega)).trans hc, q⟩)⟩
theorem infoIj : (Try.prog.info? 3).map (fun i => (i.zero, i.size, i.bytes)) = some (some (Value.int .i64 0), 1, 8) := by kernel_rfl
theorem new_cell {r : Nat} {w w' : World} {cs : Array Value} {t : TypeId} (k : Bk r (w.alloc (.cells cs t)) w') (hr : r < w.heap.size) (i : Nat) {v : Value} (hv : cs[i]? = some v) : w'.cell? ⟨w.heap.size, i, none⟩ = some v :=
  (cellB ((k.block w.heap.size (by simp) (by omega)).trans (newestB _ _))).trans hv
/-- what an append of one number leaves -/
theorem app_left {w w3 w4 : World} {r B : Nat} {l : List Int} {x : Int} {o v' : Value} (hr : r < w.heap.size) (hO : w3.ownsRow w.heap.size 3 1 o l.length (l.map (Value.int .i64))) (hR : Rd w3 r B) (hB : Bk r w w3)
    (hg : (w3.alloc (.cells #[.int .i64 x] 3)).grownBy w4 o.ownBlock) (hown : w4.ownsRow w.heap.size 3 1 v' (l.length + 1) (l.map (Value.int .i64) ++ [.int .i64 x])) :
    Rd w4 r B ∧ Bk r w w4 ∧ w4.ownsRow w.heap.size 3 1 v' (l ++ [x]).length ((l ++ [x]).map (Value.int .i64)) := by
  have hlt := hR.lt
  have hA := hB.alloc (.cells #[.int .i64 x] 3)
  refine ⟨?_, ?_, by rw [List.length_append, List.map_append]; exact hown⟩
  · refine (hR.alloc (.cells #[.int .i64 x] 3)).keep (fun k hk => hg.block k (by simp; omega) (fun hb => ?_))
    have := (hO.lt k hb.symm).1
    omega
  · refine ⟨hg.os.trans hA.os, hg.tape.trans hA.tape, hg.output.trans hA.output, Nat.le_trans hA.size hg.size, fun k hk hkr => (hg.block k (Nat.lt_of_lt_of_le hk hA.size) (fun hb => ?_)).trans (hA.block k hk hkr)⟩
    have := (hO.lt k hb.symm).1
    omega

set_option maxRecDepth 100000 in
set_option maxHeartbeats 1000000 in
theorem l20Numbers_any (r B : Nat) (w : World) (h : Rd w r B) (hB : B ≤ 1000) :
    Calls Try.prog 15 #[.pointer (some ⟨r, 0, none⟩)] w fun e w' => ∃ (v : Value) (l : List Int), e = .returned v ∧ l.length ≤ 6 ∧ (∀ x ∈ l, 0 ≤ x ∧ x ≤ 20) ∧ RowI w' w.heap.size w'.heap.size v l ∧ Rd w' r (B + 20) ∧ Bk r w w' := by
  obtain ⟨i0, hi, hz0, hz1, hz2⟩ := info_parts infoIj
  have hr := h.lt
  have H := Hid.intro h
  clear h
  go_enter Try.func15, Try.ntmps15
  go_wp2_with fail
  refine (pick_any _ B _ _ (H.out.alloc _) (by omega)).mono ?_
  rintro e w2 ⟨m0, rfl, hm0, hR2, hb2⟩
  obtain ⟨m1, m2⟩ := hm0 (by omega)
  obtain ⟨M, rfl⟩ := Int.eq_ofNat_of_zero_le m1
  have O2 := Hid.intro (bk_rowI (World.ownsRow_made (base := w.heap.size) (e := 3) (size := 1) w #[] 0 (Nat.le_refl _) (Nat.zero_le _) rfl) hb2 hr)
  have R2 := Hid.intro hR2
  have K2 := Hid.intro (((Bk.refl r w).alloc (.cells #[] 3)).trans hb2)
  clear hR2 hb2 hm0 m1
  go_wp2_with fail
  go_loopw [3, 4] (fun o q W => ∃ (m : Nat) (l : List Int), q = .int .i64 m ∧ m + l.length ≤ 6 ∧ Hid (∀ x ∈ l, 0 ≤ x ∧ x ≤ 20) ∧ Hid (W.ownsRow w.heap.size 3 1 o l.length (l.map (Value.int .i64))) ∧ Hid (Rd W r (B + 1 + 2 * l.length)) ∧ Hid (Bk r w W)) (fun _ q _ => (intOf q).toNat)
  case atStart => exact ⟨M, [], rfl, by simp; omega, fun x hx => (by cases hx), O2.out, R2.out, K2.out⟩
  case round =>
    obtain ⟨m, l, rfl, hms, HS, HO, HR, HB⟩ := hrel
    by_cases hm : 0 < m
    · have hm' : (0 : Int) < (m : Int) := by omega
      go_wp2_with fail
      refine (pick_any _ _ _ _ HR.out (by omega)).mono ?_
      rintro e w4 ⟨x, rfl, hk7, hR4, hb4⟩
      obtain ⟨ka, kb⟩ := hk7 (by omega)
      have hO4 := bk_rowI HO.out hb4 hr
      have hB4 := HB.out.trans hb4
      have hsz := hB4.size
      clear hb4 hk7
      go_wp2_with (at_builtin; refine wpList_append_own _ rfl _ _ 23 rfl w.heap.size 3 i0 (.int .i64 0) 1 8 Try.underlying23 hi hz0 hz1 hz2 rfl (by decide) _ _ _ rfl (hO4.alloc _) ⟨w4.heap.size, 0, none⟩ 1 1 [.int .i64 x] rfl rfl ?c1 ?c2 ?c3 ?c4 ?c5 ?_)
      case c1 =>
        intro i u hi
        match i, hi with
        | 0, hi => simp at hi; subst hi; simp [Addr.add]
      case c2 => intro u hu; simp at hu; subst hu; rfl
      case c3 => unfold maxLen; omega
      case c4 => omega
      case c5 => simp; omega
      intro v' w5 hown' hgrow' _
      obtain ⟨hR5, hB5, hO5⟩ := app_left hr hO4 hR4 hB4 hgrow' hown'
      have HR5 : Hid (Rd w5 r (B + 1 + 2 * (l ++ [x]).length)) := hR5.mono (by simp; omega)
      have HB5 := Hid.intro hB5
      have HO5 := Hid.intro hO5
      have HS5 : Hid (∀ y ∈ l ++ [x], 0 ≤ y ∧ y ≤ 20) := fun y hy => by
        rcases List.mem_append.1 hy with hy | hy
        · exact HS.out y hy
        · simp at hy; subst hy; omega
      obtain ⟨g', cap', rfl⟩ := Joins.ownsRow_form hown' (by omega)
      clear hown' hgrow' hO4 hB4 hR4 hR5 hB5 hO5
      have hms4 : (m - 1) + (l ++ [x]).length ≤ 6 := by simp; omega
      go_wp2
      go_roundw
      case rel => exact ⟨m - 1, l ++ [x], by go_num, hms4, HS5, HO5, HR5, HB5⟩
      case measure => simp [intOf]; omega
    · obtain rfl : m = 0 := by omega
      obtain ⟨aa, cc, rfl⟩ := (RowI.of_owns HO.out).form
      have HR3 : Hid (Rd wr r (B + 20)) := HR.out.mono (by omega)
      go_wp2
      go_ret
      exact ⟨_, l, rfl, by omega, HS.out, RowI.of_owns HO.out, HR3.out, HB.out⟩

set_option maxRecDepth 100000 in
set_option maxHeartbeats 1000000 in
theorem drawWidAt_any (a : Option Addr) (len cap : Nat) (w : World) (h : IsCode w a len cap) :
    Calls Try.prog 5 #[.slice a len cap] w fun e w' => ∃ (aa : Option Addr) (cc : Nat) (l : List Int) (gap col : Int), e = .returned (.tuple #[.slice aa l.length cc, .int .i64 gap, .int .i64 col]) ∧ l.length ≤ 6 ∧ (∀ x ∈ l, 0 ≤ x ∧ x ≤ 20) ∧ (0 ≤ gap ∧ gap ≤ 4) ∧ (-1 ≤ col ∧ col ≤ 9) ∧ IntsAt w' (.slice aa l.length cc) l ∧ Below w.heap.size w w' := by
  have HC := Hid.intro h
  clear h
  go_enter Try.func5, Try.ntmps5
  go_wp2_with fail
  refine (open_any _ _ _ _ HC.out).mono ?_
  rintro e w1 ⟨rfl, hR1, hb1⟩
  have hlt1 := hR1.lt
  go_wp2_with fail
  refine (l20Numbers_any _ 0 _ hR1 (by omega)).mono ?_
  rintro e w2 ⟨v, l, rfl, hl, hS, hr2, hR2, hb2⟩
  obtain ⟨aa, cc, rfl⟩ := hr2.form
  go_wp2_with fail
  refine (pick_any _ _ _ _ hR2 (by omega)).mono ?_
  rintro e w3 ⟨gap, rfl, hg, hR3, hb3⟩
  obtain ⟨hg0, hg1⟩ := hg (by omega)
  go_wp2_with fail
  refine (pick_any _ _ _ _ hR3 (by omega)).mono ?_
  rintro e w4 ⟨col, rfl, hc, hR4, hb4⟩
  obtain ⟨hc0, hc1⟩ := hc (by omega)
  have hK : Hid (Below w.heap.size w w4) := hb1.trans (((hb2.trans hb3).trans hb4).below (by omega) (by omega))
  have hI : Hid (IntsAt w4 (.slice aa l.length cc) l) := (hr2.kept (fun j h0 h1 h2 => (hb3.trans hb4).block j h0 (by omega))).at
  have HS := Hid.intro hS
  clear hr2 hb1 hb2 hb3 hb4 hR1 hR2 hR3 hR4 hg hc hS
  go_wp2
  go_ret3
  exact ⟨_, _, l, gap, col - 1, rfl, hl, HS.out, by omega, by omega, hI.out, hK.out⟩
end Go.Proofs.Ytgcobajekffmoaf
namespace Go.Proofs.Ytgcobajekffmoaf
open Go.RowKit

def inB (n lo hi : Int) : Bool := decide (lo ≤ n ∧ n ≤ hi)
theorem retB {a b : Bool} (h : a = b) : Ending.returned (.bool a) = .returned (.bool b) := by rw [h]
theorem inB_true {n lo hi : Int} (h1 : lo ≤ n) (h2 : n ≤ hi) : inB n lo hi = true := by simp [inB, h1, h2]
theorem inB_false {n lo hi : Int} (h : ¬ (lo ≤ n ∧ n ≤ hi)) : inB n lo hi = false := by simp only [inB, h, decide_false]

theorem within_any (n lo hi : Int) (w : World) :
    Calls Try.prog 18 #[.int .i64 n, .int .i64 lo, .int .i64 hi] w fun e w' => e = .returned (.bool (inB n lo hi)) ∧ w' = w := by
  by_cases h1 : lo ≤ n
  · by_cases h2 : n ≤ hi
    · have HB : Hid (inB n lo hi = true) := inB_true h1 h2
      go_enter Try.func18, Try.ntmps18
      go_wp2
      go_ret
      exact ⟨retB HB.out.symm, rfl⟩
    · have HB : Hid (inB n lo hi = false) := inB_false (by omega)
      go_enter Try.func18, Try.ntmps18
      go_wp2
      go_ret
      exact ⟨retB HB.out.symm, rfl⟩
  · have HB : Hid (inB n lo hi = false) := inB_false (by omega)
    go_enter Try.func18, Try.ntmps18
    go_wp2
    go_ret
    exact ⟨retB HB.out.symm, rfl⟩

theorem l1In_any (n lo hi : Int) (w : World) :
    Calls Try.prog 19 #[.int .i64 n, .int .i64 lo, .int .i64 hi] w fun e w' => e = .returned (.bool (inB n lo hi)) ∧ w' = w := by
  by_cases h1 : lo ≤ n
  · by_cases h2 : n ≤ hi
    · have HB : Hid (inB n lo hi = true) := inB_true h1 h2
      go_enter Try.func19, Try.ntmps19
      go_wp2
      go_ret
      exact ⟨retB HB.out.symm, rfl⟩
    · have HB : Hid (inB n lo hi = false) := inB_false (by omega)
      go_enter Try.func19, Try.ntmps19
      go_wp2
      go_ret
      exact ⟨retB HB.out.symm, rfl⟩
  · have HB : Hid (inB n lo hi = false) := inB_false (by omega)
    go_enter Try.func19, Try.ntmps19
    go_wp2
    go_ret
    exact ⟨retB HB.out.symm, rfl⟩
end Go.Proofs.Ytgcobajekffmoaf
namespace Go.Proofs.Ytgcobajekffmoaf
open Go.RowKit

/-- numbers that may be weights -/
def wtB (n : Int) : Bool := decide (0 ≤ n ∧ n ≤ 100000)
def shrOkB (t : Int) (l : List Int) : Bool := wtB t && decide (l.length ≤ 100) && l.all wtB
theorem wtB_in (n : Int) : inB n 0 100000 = wtB n := rfl
theorem all_next {l : List Int} {k : Nat} (h : k < l.length) (h1 : (l.take k).all wtB = true) (h2 : wtB (l.getD k 0) = true) : (l.take (k + 1)).all wtB = true := by
  rw [List.take_add_one, List.all_append, h1]
  simp [List.getD, h] at h2 ⊢
  exact h2
theorem not_all {l : List Int} {k : Nat} (h : k < l.length) (h2 : wtB (l.getD k 0) = false) : l.all wtB = false := by
  rw [List.all_eq_false]
  refine ⟨l[k], List.getElem_mem h, ?_⟩
  simp [List.getD, h] at h2
  simp [h2]
theorem wt_get {l : List Int} (h : l.all wtB = true) {i : Nat} (hi : i < l.length) : 0 ≤ l.getD i 0 ∧ l.getD i 0 ≤ 100000 := by
  have := List.all_eq_true.1 h (l[i]) (List.getElem_mem hi)
  simp [wtB] at this
  simpa [List.getD, hi] using this
def sumTo (l : List Int) (k : Nat) : Int := (l.take k).sum
theorem sumTo_succ {l : List Int} {k : Nat} (h : k < l.length) : sumTo l (k + 1) = sumTo l k + l.getD k 0 := by
  rw [sumTo, List.take_add_one, List.sum_append, sumTo]
  simp [List.getD, h]
theorem sumTo_all (l : List Int) : sumTo l l.length = l.sum := by rw [sumTo, List.take_length]
theorem sumTo_bound {l : List Int} (h : l.all wtB = true) : ∀ k, k ≤ l.length → 0 ≤ sumTo l k ∧ sumTo l k ≤ k * 100000
  | 0, _ => by simp [sumTo]
  | k + 1, hk => by
    have h1 := sumTo_bound h k (by omega)
    have h2 := wt_get h (i := k) (by omega)
    rw [sumTo_succ (by omega)]
    omega
theorem sum_bound {l : List Int} (h : l.all wtB = true) : 0 ≤ l.sum ∧ l.sum ≤ l.length * 100000 := by
  have := sumTo_bound h l.length (Nat.le_refl _)
  rwa [sumTo_all] at this
theorem shrOk_parts {t : Int} {l : List Int} (h : shrOkB t l = true) : (0 ≤ t ∧ t ≤ 100000) ∧ l.length ≤ 100 ∧ l.all wtB = true := by
  simp only [shrOkB, Bool.and_eq_true, decide_eq_true_eq] at h
  obtain ⟨⟨h1, h2⟩, h3⟩ := h
  simp only [wtB, decide_eq_true_eq] at h1
  exact ⟨h1, h2, h3⟩
end Go.Proofs.Ytgcobajekffmoaf
namespace Go.Proofs.Ytgcobajekffmoaf
open Go.RowKit

theorem W_eq (n : Int) : wrap64 n = (n + 9223372036854775808) % 18446744073709551616 - 9223372036854775808 := by unfold wrap64; rfl
theorem W_addl (a b : Int) : wrap64 (wrap64 a + b) = wrap64 (a + b) := by simp only [W_eq]; omega
theorem W_addr (a b : Int) : wrap64 (a + wrap64 b) = wrap64 (a + b) := by simp only [W_eq]; omega
theorem W_subl (a b : Int) : wrap64 (wrap64 a - b) = wrap64 (a - b) := by simp only [W_eq]; omega
theorem W_subr (a b : Int) : wrap64 (a - wrap64 b) = wrap64 (a - b) := by simp only [W_eq]; omega
theorem W_small {a : Int} (h : -9223372036854775808 ≤ a ∧ a ≤ 9223372036854775807) : wrap64 a = a := by rw [W_eq]; omega
theorem W_bounds (a : Int) : -9223372036854775808 ≤ wrap64 a ∧ wrap64 a ≤ 9223372036854775807 := by rw [W_eq]; omega
/-- how many columns are ahead of one -/
def aheadN (l : List Int) (col : Int) : Nat := (min (max col 0) l.length).toNat
/-- where a column begins -/
def atV (l : List Int) (gap col : Int) : Int := wrap64 (sumTo l (aheadN l col) + gap * (aheadN l col : Nat))
/-- where a column ends -/
def endV (l : List Int) (gap col : Int) : Int := if inB col 0 (l.length - 1) = true then wrap64 (atV l gap col + l.getD col.toNat 0) else 0
theorem aheadN_le (l : List Int) (col : Int) : aheadN l col ≤ l.length := by unfold aheadN; omega
theorem aheadN_nat (l : List Int) {k : Nat} (h : k ≤ l.length) : aheadN l k = k := by unfold aheadN; omega
theorem IntsAt.take {w : World} {a : Option Addr} {n cap : Nat} {l : List Int} (h : IntsAt w (.slice a n cap) l) {m : Nat} (hm : m ≤ l.length) : IntsAt w (.slice a m cap) (l.take m) := by
  obtain ⟨a', cap', hv, h1, h2, h3⟩ := h
  simp only [Value.slice.injEq] at hv
  obtain ⟨rfl, rfl, rfl⟩ := hv
  have hl : (l.take m).length = m := by rw [List.length_take]; omega
  refine ⟨a, cap, by rw [hl], by omega, h2, fun i hi => ?_⟩
  rw [hl] at hi
  obtain ⟨b, off, h4, h5, h6⟩ := h3 i (by omega)
  refine ⟨b, off, h4, h5, ?_⟩
  rw [h6]
  simp [List.getD, hi]
end Go.Proofs.Ytgcobajekffmoaf
namespace Go.Proofs.Ytgcobajekffmoaf
open Go.RowKit

set_option maxRecDepth 100000 in
set_option maxHeartbeats 1000000 in
theorem implsumOfW (v : Value) (l : List Int) (w : World) (h : IntsAt w v l) :
    Calls Try.prog 17 #[v] w fun e w' => e = .returned (.int .i64 (wrap64 l.sum)) ∧ w' = w := by
  obtain ⟨a, cap, rfl, hlen⟩ := h.form
  have H := Hid.intro h
  clear h
  go_enter Try.func17, Try.ntmps17
  go_wp2_with fail
  go_loop [3, 8] (fun s i => ∃ k : Nat, k ≤ l.length ∧ i = .int .i64 k ∧ s = .int .i64 (wrap64 (sumTo l k))) (fun _ i => l.length - (intOf i).toNat)
  case atStart => exact ⟨0, Nat.zero_le _, rfl, by simp [sumTo, W_eq]⟩
  case round =>
    obtain ⟨k, hk, rfl, rfl⟩ := hrel
    by_cases hlt : k < l.length
    · obtain ⟨b, off, cap', e', hc1, hc2, hbl, hx⟩ := H.out.get hlt
      simp only [Value.slice.injEq, true_and] at e'
      obtain ⟨rfl, rfl⟩ := e'
      have HS : Hid (wrap64 (wrap64 (sumTo l k) + l.getD k 0) = wrap64 (sumTo l (k + 1))) := by rw [Hid, sumTo_succ hlt, W_addl]
      generalize l.getD k 0 = x at hx HS
      generalize wrap64 (sumTo l k) = s at HS ⊢
      unfold maxLen at hc2
      go_wp2
      go_round
      case rel => exact ⟨k + 1, by omega, by go_num, by rw [← HS.out]⟩
      case measure => simp [intOf]; omega
    · obtain rfl : k = l.length := by omega
      have HE := Hid.intro (sumTo_all l)
      go_wp2
      go_ret
      exact ⟨by rw [← HE.out]; rfl, rfl⟩

set_option maxRecDepth 100000 in
set_option maxHeartbeats 1000000 in
theorem implWidAt (v : Value) (l : List Int) (gap col : Int) (w : World) (h : IntsAt w v l) :
    Calls Try.prog 6 #[v, .int .i64 gap, .int .i64 col] w fun e w' => e = .returned (.int .i64 (atV l gap col)) ∧ w' = w := by
  obtain ⟨a, cap, rfl, hlen⟩ := h.form
  have hcap : l.length ≤ cap ∧ cap ≤ 9223372036854775807 := by
    obtain ⟨_, _, hv, h1, h2, _⟩ := h
    simp only [Value.slice.injEq] at hv
    obtain ⟨_, _, rfl⟩ := hv
    unfold maxLen at h2
    omega
  have HT := Hid.intro (fun m (hm : m ≤ l.length) => h.take hm)
  have HV : Hid (∀ m : Nat, aheadN l col = m → atV l gap col = wrap64 (wrap64 (l.take m).sum + wrap64 (gap * (m : Nat)))) := fun m hm => by rw [W_addl, W_addr, atV, hm]; rfl
  clear h
  by_cases h0 : col < 0
  · have HV0 := Hid.intro (HV.out 0 (by unfold aheadN; omega))
    have H := Hid.intro (HT.out 0 (Nat.zero_le _))
    clear HV HT
    go_enter Try.func6, Try.ntmps6
    go_wp2_with fail
    refine (implsumOfW _ _ _ H.out).mono ?_
    rintro e w1 ⟨rfl, rfl⟩
    go_wp2
    go_ret
    exact ⟨by rw [HV0.out]; simp [W_eq], rfl⟩
  · obtain ⟨k, rfl⟩ := Int.eq_ofNat_of_zero_le (show 0 ≤ col by omega)
    by_cases h1 : (k : Int) ≤ (l.length : Int)
    · have HV0 := Hid.intro (HV.out k (by unfold aheadN; omega))
      have H := Hid.intro (HT.out k (by omega))
      clear HV HT
      go_enter Try.func6, Try.ntmps6
      go_wp2_with fail
      refine (implsumOfW _ _ _ H.out).mono ?_
      rintro e w1 ⟨rfl, rfl⟩
      go_wp2
      go_ret
      exact ⟨by rw [HV0.out]; first | rfl | simp, rfl⟩
    · have HV0 := Hid.intro (HV.out l.length (by unfold aheadN; omega))
      have H := Hid.intro (HT.out l.length (Nat.le_refl _))
      clear HV HT
      go_enter Try.func6, Try.ntmps6
      go_wp2_with fail
      refine (implsumOfW _ _ _ H.out).mono ?_
      rintro e w1 ⟨rfl, rfl⟩
      go_wp2
      go_ret
      exact ⟨by rw [HV0.out]; first | rfl | simp, rfl⟩

set_option maxRecDepth 100000 in
set_option maxHeartbeats 1000000 in
theorem implWidEnd (v : Value) (l : List Int) (gap col : Int) (w : World) (h : IntsAt w v l) :
    Calls Try.prog 8 #[v, .int .i64 gap, .int .i64 col] w fun e w' => e = .returned (.int .i64 (endV l gap col)) ∧ ∃ n, w' = w.drewN n := by
  obtain ⟨a, cap, rfl, hlen⟩ := h.form
  have H := Hid.intro h
  clear h
  have HI := Hid.intro (within_any col 0 ((l.length : Int) - 1))
  cases hin : inB col 0 ((l.length : Int) - 1) with
  | false =>
    have HV : Hid (endV l gap col = 0) := by rw [Hid, endV, hin]; rfl
    rw [hin] at HI
    clear hin
    go_enter Try.func8, Try.ntmps8
    go_wp2_with fail
    refine (HI.out _).mono ?_
    rintro e w1 ⟨rfl, rfl⟩
    go_wp2
    go_ret
    exact ⟨by rw [HV.out]; rfl, 0, rfl⟩
  | true =>
    have HV : Hid (endV l gap col = wrap64 (atV l gap col + l.getD col.toNat 0)) := by rw [Hid, endV, if_pos hin]
    rw [hin] at HI
    have hk : 0 ≤ col ∧ col ≤ (l.length : Int) - 1 := by simpa [inB] using hin
    clear hin
    obtain ⟨k, rfl⟩ := Int.eq_ofNat_of_zero_le hk.1
    have hkl : k < l.length := by omega
    rw [Int.toNat_natCast] at HV
    have KA := Hid.intro (fun n => implWidAt _ l gap k (w.drewN n) H.out)
    obtain ⟨b, off, cap', e', hc1, hc2, hbl, hx⟩ := H.out.get hkl
    simp only [Value.slice.injEq, true_and] at e'
    obtain ⟨rfl, rfl⟩ := e'
    unfold maxLen at hc2
    generalize l.getD k 0 = x at hx HV
    generalize atV l gap k = y at KA HV
    go_enter Try.func8, Try.ntmps8
    go_wp2_with fail
    refine (HI.out _).mono ?_
    rintro e w1 ⟨rfl, rfl⟩
    go_wp2_with fail
    go_quiet (refine (KA.out _).mono (fun _ _ ⟨h1, h2⟩ => ⟨h1, _, h2⟩))
    go_wp2
    go_ret
    exact ⟨by rw [HV.out]; rfl, _, rfl⟩
end Go.Proofs.Ytgcobajekffmoaf
namespace Go.Proofs.Ytgcobajekffmoaf
open Go.RowKit

theorem at_zero (l : List Int) (gap : Int) : wrap64 (sumTo l 0 + gap * (0 : Nat)) = 0 := by simp [sumTo, W_eq]
theorem at_next {l : List Int} {k : Nat} (gap : Int) (h : k < l.length) : wrap64 (wrap64 (wrap64 (sumTo l k + gap * (k : Nat)) + l.getD k 0) + gap) = wrap64 (sumTo l (k + 1) + gap * ((k + 1 : Nat) : Int)) := by
  rw [W_addl, sumTo_succ h, show gap * ((k + 1 : Nat) : Int) = gap * (k : Nat) + gap by rw [show ((k + 1 : Nat) : Int) = (k : Int) + 1 by omega, Int.mul_add, Int.mul_one]]
  generalize gap * (k : Int) = y
  generalize sumTo l k = z
  generalize l.getD k 0 = x
  simp only [W_eq]
  omega
set_option maxRecDepth 100000 in
set_option maxHeartbeats 1000000 in
theorem specWidAt (v : Value) (l : List Int) (gap col : Int) (w : World) (h : IntsAt w v l) :
    Calls Try.prog 7 #[v, .int .i64 gap, .int .i64 col] w fun e w' => e = .returned (.int .i64 (atV l gap col)) ∧ w' = w := by
  obtain ⟨a, cap, rfl, hlen⟩ := h.form
  have H := Hid.intro h
  clear h
  go_enter Try.func7, Try.ntmps7
  go_wp2_with fail
  go_loop [7, 8] (fun s i => ∃ k : Nat, k ≤ aheadN l col ∧ i = .int .i64 k ∧ s = .int .i64 (wrap64 (sumTo l k + gap * (k : Nat)))) (fun _ i => l.length - (intOf i).toNat)
  case atStart => exact ⟨0, Nat.zero_le _, rfl, by rw [at_zero]⟩
  case round =>
    obtain ⟨k, hk, rfl, rfl⟩ := hrel
    have hal := aheadN_le l col
    by_cases hlt : k < aheadN l col
    · have hlt2 : k < l.length := by omega
      have hcol : (k : Int) < col := by unfold aheadN at hlt; omega
      obtain ⟨b, off, cap', e', hc1, hc2, hbl, hx⟩ := H.out.get hlt2
      simp only [Value.slice.injEq, true_and] at e'
      obtain ⟨rfl, rfl⟩ := e'
      have HS := Hid.intro (at_next gap hlt2)
      generalize wrap64 (sumTo l k + gap * (k : Nat)) = s at HS ⊢
      generalize l.getD k 0 = x at hx HS
      unfold maxLen at hc2
      go_wp2
      go_round
      case rel => exact ⟨k + 1, by omega, by go_num, by rw [← HS.out]⟩
      case measure => simp [intOf]; omega
    · obtain rfl : k = aheadN l col := by omega
      have HE : Hid (wrap64 (sumTo l (aheadN l col) + gap * (aheadN l col : Nat)) = atV l gap col) := rfl
      rw [HE.out]
      by_cases hc : ((aheadN l col : Nat) : Int) < col
      · have hc2 : ¬ ((aheadN l col : Nat) : Int) < (l.length : Int) := by unfold aheadN at hc ⊢; omega
        generalize aheadN l col = m at hc hc2 hk hal hlt
        go_wp2
        go_ret
        exact ⟨rfl, rfl⟩
      · generalize aheadN l col = m at hc hk hal hlt
        go_wp2
        go_ret
        exact ⟨rfl, rfl⟩

set_option maxRecDepth 100000 in
set_option maxHeartbeats 1000000 in
theorem specWidEnd (v : Value) (l : List Int) (gap col : Int) (w : World) (h : IntsAt w v l) :
    Calls Try.prog 9 #[v, .int .i64 gap, .int .i64 col] w fun e w' => e = .returned (.int .i64 (endV l gap col)) ∧ ∃ n, w' = w.drewN n := by
  obtain ⟨a, cap, rfl, hlen⟩ := h.form
  have H := Hid.intro h
  clear h
  have HI := Hid.intro (l1In_any col 0 ((l.length : Int) - 1))
  cases hin : inB col 0 ((l.length : Int) - 1) with
  | false =>
    have HV : Hid (endV l gap col = 0) := by rw [Hid, endV, hin]; rfl
    rw [hin] at HI
    clear hin
    go_enter Try.func9, Try.ntmps9
    go_wp2_with fail
    refine (HI.out _).mono ?_
    rintro e w1 ⟨rfl, rfl⟩
    go_wp2
    go_ret
    exact ⟨by rw [HV.out]; rfl, 0, rfl⟩
  | true =>
    have HV : Hid (endV l gap col = wrap64 (atV l gap col + l.getD col.toNat 0)) := by rw [Hid, endV, if_pos hin]
    rw [hin] at HI
    have hk : 0 ≤ col ∧ col ≤ (l.length : Int) - 1 := by simpa [inB] using hin
    clear hin
    obtain ⟨k, rfl⟩ := Int.eq_ofNat_of_zero_le hk.1
    have hkl : k < l.length := by omega
    rw [Int.toNat_natCast] at HV
    have KA := Hid.intro (fun n => specWidAt _ l gap k (w.drewN n) H.out)
    obtain ⟨b, off, cap', e', hc1, hc2, hbl, hx⟩ := H.out.get hkl
    simp only [Value.slice.injEq, true_and] at e'
    obtain ⟨rfl, rfl⟩ := e'
    unfold maxLen at hc2
    generalize l.getD k 0 = x at hx HV
    generalize atV l gap k = y at KA HV
    go_enter Try.func9, Try.ntmps9
    go_wp2_with fail
    refine (HI.out _).mono ?_
    rintro e w1 ⟨rfl, rfl⟩
    go_wp2_with fail
    go_quiet (refine (KA.out _).mono (fun _ _ ⟨h1, h2⟩ => ⟨h1, _, h2⟩))
    go_wp2
    go_ret
    exact ⟨by rw [HV.out]; rfl, _, rfl⟩
end Go.Proofs.Ytgcobajekffmoaf
namespace Go.Proofs.Ytgcobajekffmoaf
open Go.RowKit

/-- a world in which what was in memory is as it was -/
structure BW (w : World) where
  u : World
  h : Below w.heap.size w u
theorem bw_some (w : World) : Nonempty (BW w) := ⟨⟨w, Below.refl _ _⟩⟩
theorem wp_region_quiet_below {P : Program} {id : Nat} {Q : Exit → Act → World → Prop} {a : Act} {w : World} {l : List Oper} (hm : P.follows .mixedOrders = true) (hB : Region.lexB .any l.toArray = true)
    (h : wpQuiet P l.toArray (fun w' => ∃ p : BW w, w' = p.u) (fun a' => ∀ w', (∃ p : BW w, w' = p.u) → Q .normal a' w') l a) : (Code.region id l.toArray true).wp P Q a w :=
  wp_region_quiet (C := fun w' => ∃ p : BW w, w' = p.u) hm hB ⟨⟨_, k_drew (Below.refl _ _)⟩, rfl⟩ (by simpa using h)
theorem bw_of {P : Program} {f : FuncId} {args : Array Value} {w : World} {p : BW w} {v : Value} (h : Calls P f args p.u fun e w' => e = .returned v ∧ Below p.u.heap.size p.u w') :
    Calls P f args p.u fun e w'' => e = .returned v ∧ ∃ p : BW w, w'' = p.u :=
  h.mono fun _ _ ⟨he, hb⟩ => ⟨he, ⟨_, k_trans p.h hb⟩, rfl⟩
theorem bw_same {P : Program} {f : FuncId} {args : Array Value} {w : World} {p : BW w} {v : Value} (h : Calls P f args p.u fun e w' => e = .returned v ∧ w' = p.u) :
    Calls P f args p.u fun e w'' => e = .returned v ∧ ∃ p : BW w, w'' = p.u :=
  h.mono fun _ _ ⟨he, hb⟩ => ⟨he, p, hb⟩
theorem bw_cell {w : World} {a : Addr} {v : Value} (hb : a.block < w.heap.size) (h : w.cell? a = some v) (p : BW w) : p.u.cell? a = some v := (p.h.cell hb).trans h
end Go.Proofs.Ytgcobajekffmoaf
