/-
  PROVED HERE: the law FnHgtAt returns true at every two codes that lie in memory.
-/
import Derived.Test.YtmdghonefdmihagDrawHA
import Derived.Test.YtmdghonefdmihagHgtAI
import Derived.Test.YtmdghonefdmihagHgtAS
import Derived.Test.YtmdghonefdmihagHgtCI
import Derived.Test.YtmdghonefdmihagHgtCS
import Derived.Test.YtmdghonefdmihagWidSm
import Derived.Test.YtmdghonefdmihagQuietT
import Derived.Deep.DeepCutAuto
import Derived.Deep.RegionWith
namespace Go.Proofs.Ytmdghonefdmihag
open Go.RowKit Go.BigFrame

theorem at0 {l : List Int} (h : ∀ x ∈ l, 0 ≤ x ∧ x ≤ 20) (hl : l.length ≤ 6) (k : Int) : atV l 0 k = sumTo l (aheadN l k) ∧ 0 ≤ atV l 0 k ∧ atV l 0 k ≤ 200 := by
  have h2 := aheadN_le l k
  have h1 := sumS h (aheadN l k) h2
  have e : atV l 0 k = sumTo l (aheadN l k) := by rw [atV, Int.zero_mul, Int.add_zero, W_small (by omega)]
  rw [e]
  omega
theorem at0_next {l : List Int} (h : ∀ x ∈ l, 0 ≤ x ∧ x ≤ 20) (hl : l.length ≤ 6) {k : Nat} (hk : k < l.length) : atV l 0 ((k : Int) + 1) = atV l 0 k + l.getD k 0 := by
  rw [(at0 h hl _).1, (at0 h hl _).1, aheadN_nat l (show k ≤ l.length by omega), show (k : Int) + 1 = ((k + 1 : Nat) : Int) by omega, aheadN_nat l (show k + 1 ≤ l.length by omega), sumTo_succ hk]
theorem high0 {l : List Int} (h : ∀ x ∈ l, 0 ≤ x ∧ x ≤ 20) (hl : l.length ≤ 6) {x : GC} (h0 : 0 ≤ x.row ∧ x.row ≤ 9) (h1 : 0 ≤ x.rows ∧ x.rows ≤ 9) : highV l x = atV l 0 (x.row + x.rows) - atV l 0 x.row := by
  obtain ⟨r, hr⟩ := Int.eq_ofNat_of_zero_le h0.1
  obtain ⟨n, hn⟩ := Int.eq_ofNat_of_zero_le h1.1
  obtain ⟨_, o2⟩ := own_span (l := l) (x := hgtG x) (c := r) (m := n) hr hn l.length (Nat.le_refl _)
  have e1 : aheadN l (x.row + x.rows) = min l.length (r + n) := by unfold aheadN; omega
  have e2 : aheadN l x.row = min l.length r := by unfold aheadN; omega
  have a1 := at0 h hl (x.row + x.rows)
  have a2 := at0 h hl x.row
  rw [e1] at a1
  rw [e2] at a2
  rw [highV, cellV, acr0, o2, W_small (by omega), a1.1, a2.1]
theorem at43 : atV [4, 3] 0 2 = 7 := by
  have h := (at0 (l := [4, 3]) (by simp) (by simp) 2).1
  exact h.trans (by decide)
theorem fiveG {w : World} {g : Nat} {x0 x1 x2 x3 x4 : Value} {t : TypeId} (h : w.heap[g]? = some (.cells #[x0, x1, x2, x3, x4] t)) :
    w.cell? ⟨g, 0, none⟩ = some x0 ∧ w.cell? ⟨g, 1, none⟩ = some x1 ∧ w.cell? ⟨g, 2, none⟩ = some x2 ∧ w.cell? ⟨g, 3, none⟩ = some x3 ∧ w.cell? ⟨g, 4, none⟩ = some x4 := ⟨cellB h, cellB h, cellB h, cellB h, cellB h⟩
theorem two_ints {w : World} {g : Nat} {x y : Int} (h : w.heap[g]? = some (.cells #[.int .i64 x, .int .i64 y] 3)) : IntsAt w (.slice (some ⟨g, 0, none⟩) 2 2) [x, y] :=
  ⟨_, _, rfl, Nat.le_refl _, by unfold maxLen; omega, fun i hi => ⟨g, 0, rfl, (Array.getElem?_eq_some_iff.1 h).1, by
    rcases (by simp at hi; omega : i = 0 ∨ i = 1) with rfl | rfl
    · exact cellB h
    · exact cellB h⟩⟩

set_option maxRecDepth 100000 in
set_option maxHeartbeats 1000000 in
theorem lawHgtAt_walk (A B : Option Addr) (len cap len2 cap2 : Nat) (hlen : len ≤ 1048576) (hlen2 : len2 ≤ 1048576) (w : World) (h : IsCode w A len cap) (h2 : IsCode w B len2 cap2) :
    Calls Try.prog 3 #[.slice A len cap, .slice B len2 cap2] w fun e w' => e = .returned (.bool true) ∧ Below w.heap.size w w' := by
  have hl : ¬ (1048576 : Int) < (len : Int) := by omega
  have hl2 : ¬ (1048576 : Int) < (len2 : Int) := by omega
  have hmx : Try.prog.follows .mixedOrders = true := by kernel_rfl
  have HD := Hid.intro (And.intro h h2)
  clear h h2
  go_enter Try.func3, Try.ntmps3
  go_wp2_with fail
  refine (drawHgtAt_any _ _ _ _ HD.out.1).mono ?_
  rintro e w1 ⟨aa, ca, l, col, rfl, hll, hS, hcol, hI, hb1⟩
  have HI1 := Hid.intro hI
  have HS := Hid.intro hS
  have HB1 := Hid.intro hb1
  clear hI hS hb1
  go_wp2_with fail
  refine (drawHgtCell_any _ _ _ _ (HD.out.2.keptC HB1.out)).mono ?_
  rintro e w2 ⟨ab, cb2, m, x, rfl, hml, hSm, hgo, hIm, hb2⟩
  have HB : Hid (Below w.heap.size w (w2.alloc (.cells #[.int .i64 x.row, .int .i64 x.col, .int .i64 x.rows, .int .i64 x.cols, .int .i64 x.ins] 27))) := k_alloc (k_trans HB1.out hb2) _
  have HI := Hid.intro ((HI1.out.kept hb2).kept (k_alloc (Below.refl _ _) (.cells #[.int .i64 x.row, .int .i64 x.col, .int .i64 x.rows, .int .i64 x.cols, .int .i64 x.ins] 27)))
  have HM := Hid.intro (hIm.kept (k_alloc (Below.refl _ _) (.cells #[.int .i64 x.row, .int .i64 x.col, .int .i64 x.rows, .int .i64 x.cols, .int .i64 x.ins] 27)))
  have HX := Hid.intro (newestB w2 (.cells #[.int .i64 x.row, .int .i64 x.col, .int .i64 x.rows, .int .i64 x.cols, .int .i64 x.ins] 27))
  have HSm := Hid.intro hSm
  clear hIm hSm hb2 HI1 HB1 HD
  go_upto_region 5 with fail
  generalize w2.alloc (.cells #[.int .i64 x.row, .int .i64 x.col, .int .i64 x.rows, .int .i64 x.cols, .int .i64 x.ins] 27) = W at HB HI HM HX ⊢
  generalize w2.heap.size = cb at HX ⊢
  have hcb := (Array.getElem?_eq_some_iff.1 HX.out).1
  have hne := bw_some W
  have g0 := bw_cell (a := ⟨cb, 0, none⟩) hcb (cellB (p := 0) HX.out)
  have g1 := bw_cell (a := ⟨cb, 1, none⟩) hcb (cellB (p := 1) HX.out)
  have g2 := bw_cell (a := ⟨cb, 2, none⟩) hcb (cellB (p := 2) HX.out)
  have g3 := bw_cell (a := ⟨cb, 3, none⟩) hcb (cellB (p := 3) HX.out)
  have g4 := bw_cell (a := ⟨cb, 4, none⟩) hcb (cellB (p := 4) HX.out)
  have K1 := Hid.intro (fun (p : BW W) => bw_same (implHgtAt _ l col p.u (HI.out.kept p.h)))
  have K2 := Hid.intro (fun (p : BW W) => bw_same (specHgtAt _ l col p.u (HI.out.kept p.h)))
  have K3 := Hid.intro (fun (p : BW W) => bw_of (implHgtCell _ m (by omega) x hgo p.u (HM.out.kept p.h)))
  have K4 := Hid.intro (fun (p : BW W) => bw_of (specHgtCell _ m (by omega) x hgo p.u (HM.out.kept p.h)))
  have a1 : (atV l 0 col != atV l 0 col) = false := by simp
  have a2 : (highV m x != highV m x) = false := by simp
  generalize atV l 0 col = p1 at K1 K2 a1
  generalize highV m x = p2 at K3 K4 a2
  refine wp_region_quiet_below hmx (by kernel_rfl) ?_
  repeat (go_big_quiet_step (first | (go_at_call 6; refine K1.out _) | (go_at_call 7; refine K2.out _) | (go_at_call 8; refine K3.out _) | (go_at_call 9; refine K4.out _)))
  refine wpQuiet_nil ?_
  intro W3 hw'
  obtain ⟨⟨Wx, hW3⟩, hw''⟩ := hw'
  subst hw''
  have HB3 := Hid.intro hW3
  clear g0 g1 g2 g3 g4 K1 K2 K3 K4 a1 a2 hne hW3 hcb
  go_wp2_with fail
  go_loopw [9] (fun s V => ∃ k : Nat, s = .int .i64 k ∧ k ≤ l.length ∧ Hid (Below W.heap.size W V)) (fun s _ => l.length - (intOf s).toNat)
  case atStart => exact ⟨0, rfl, Nat.zero_le _, HB3⟩
  case round =>
    clear HB3
    obtain ⟨k, rfl, hk, HW⟩ := hrel
    by_cases hlt : k < l.length
    case pos =>
      obtain ⟨b, off, cap', e', hc1, hc2, hbl, hx⟩ := (HI.out.kept HW.out).get hlt
      simp only [Value.slice.injEq, true_and] at e'
      obtain ⟨rfl, rfl⟩ := e'
      unfold maxLen at hc2
      have hnx := at0_next HS.out hll hlt
      have hA := (at0 HS.out hll (k : Int)).2
      have hxb := getS HS.out hlt
      have hne := bw_some wr
      have KA := Hid.intro (fun (p : BW wr) => bw_same (implHgtAt _ l (k : Int) p.u (HI.out.kept (k_trans HW.out p.h))))
      have KB := Hid.intro (fun (p : BW wr) => bw_same (implHgtAt _ l ((k : Int) + 1) p.u (HI.out.kept (k_trans HW.out p.h))))
      rw [hnx] at KB
      clear hnx
      generalize l.getD k 0 = y at hx hxb KB
      generalize atV l 0 (k : Int) = q at KA KB hA
      have m0 := bw_cell hbl hx
      have hq : (q + y != q + y) = false := by simp
      clear hx
      go_upto_region 10 with fail
      refine wp_region_quiet_below hmx (by kernel_rfl) ?_
      repeat (go_big_quiet_step (first | (go_at_call 6; first | refine KB.out _ | refine KA.out _)))
      refine wpQuiet_nil ?_
      intro W5 hw'
      obtain ⟨⟨Wx, hW5⟩, hw''⟩ := hw'
      subst hw''
      have HW5 := Hid.intro (k_trans HW.out hW5)
      clear m0 KA KB hne hW5
      go_wp2
      go_roundw
      case rel => exact ⟨k + 1, by go_num, by omega, HW5⟩
      case measure => simp [intOf]; omega
    obtain rfl : k = l.length := by omega
    have HXr := Hid.intro ((HW.out.block cb (Array.getElem?_eq_some_iff.1 HX.out).1).trans HX.out)
    have HMr := Hid.intro (HM.out.kept HW.out)
    have HBr := Hid.intro (k_trans HB.out HW.out)
    obtain ⟨q0, q1, q2, q3, q4⟩ := fiveG HXr.out
    have hcb := (Array.getElem?_eq_some_iff.1 HXr.out).1
    have h7 := Hid.intro at43
    by_cases h0 : x.row < 0
    case pos =>
      go_wp2_with fail
      refine (implHgtAt _ [4, 3] 2 _ (two_ints (newestB _ _))).mono ?_
      rw [h7.out]
      rintro e w5 ⟨rfl, rfl⟩
      go_wp2
      go_ret
      exact ⟨rfl, k_alloc HBr.out _⟩
    by_cases h1 : 9 < x.row
    case pos =>
      go_wp2_with fail
      refine (implHgtAt _ [4, 3] 2 _ (two_ints (newestB _ _))).mono ?_
      rw [h7.out]
      rintro e w5 ⟨rfl, rfl⟩
      go_wp2
      go_ret
      exact ⟨rfl, k_alloc HBr.out _⟩
    by_cases h2 : x.rows < 0
    case pos =>
      go_wp2_with fail
      refine (implHgtAt _ [4, 3] 2 _ (two_ints (newestB _ _))).mono ?_
      rw [h7.out]
      rintro e w5 ⟨rfl, rfl⟩
      go_wp2
      go_ret
      exact ⟨rfl, k_alloc HBr.out _⟩
    by_cases h3 : 9 < x.rows
    case pos =>
      go_wp2_with fail
      refine (implHgtAt _ [4, 3] 2 _ (two_ints (newestB _ _))).mono ?_
      rw [h7.out]
      rintro e w5 ⟨rfl, rfl⟩
      go_wp2
      go_ret
      exact ⟨rfl, k_alloc HBr.out _⟩
    have hhi := high0 HSm.out hml (x := x) (by omega) (by omega)
    have hA1 := (at0 HSm.out hml (x.row + x.rows)).2
    have hA2 := (at0 HSm.out hml x.row).2
    have hne := bw_some wr
    have g0 := bw_cell (a := ⟨cb, 0, none⟩) hcb q0
    have g1 := bw_cell (a := ⟨cb, 1, none⟩) hcb q1
    have g2 := bw_cell (a := ⟨cb, 2, none⟩) hcb q2
    have g3 := bw_cell (a := ⟨cb, 3, none⟩) hcb q3
    have g4 := bw_cell (a := ⟨cb, 4, none⟩) hcb q4
    have K1 := Hid.intro (fun (p : BW wr) => bw_same (implHgtAt _ m (x.row + x.rows) p.u (HMr.out.kept p.h)))
    have K2 := Hid.intro (fun (p : BW wr) => bw_same (implHgtAt _ m x.row p.u (HMr.out.kept p.h)))
    have K3 := Hid.intro (fun (p : BW wr) => bw_of (implHgtCell _ m (by omega) x hgo p.u (HMr.out.kept p.h)))
    rw [hhi] at K3
    clear hhi
    generalize atV m 0 (x.row + x.rows) = p1 at K1 K3 hA1
    generalize atV m 0 x.row = p2 at K2 K3 hA2
    have hee : (p1 - p2 == p1 - p2) = true := by simp
    go_upto_region 14 with fail
    clear q0 q1 q2 q3 q4
    refine wp_region_tail 17 4 hmx (by rfl) (by rfl) (by kernel_rfl) (by kernel_rfl) (by kernel_rfl) ?_
    simp only [List.take_succ_cons, List.take_zero]
    repeat (go_big_quiet_step (first | (go_at_call 6; first | refine K1.out _ | refine K2.out _) | (go_at_call 8; refine K3.out _)))
    refine wpQuiet_nil ?_
    intro W5 hw'
    obtain ⟨⟨Wx, hW5⟩, hw''⟩ := hw'
    subst hw''
    have HB5 := Hid.intro (k_alloc (k_trans HBr.out hW5) (.cells #[.int .i64 4, .int .i64 3] 3))
    have HI5 := Hid.intro (two_ints (newestB W5 (.cells #[.int .i64 4, .int .i64 3] 3)))
    clear g0 g1 g2 g3 g4 K1 K2 K3 hne hW5 HBr HXr HMr
    rw [if_pos (by rfl)]
    go_simp
    refine wpAny_ready (rs := [18]) (by kernel_rfl) (by simp) ?_
    refine AllReady.cons rfl (fun K hK => ?_) AllReady.nil
    go_simp
    go_wp2_with (go_at_call 6; refine (implHgtAt _ [4, 3] 2 _ HI5.out).mono ?_; rw [h7.out]; rintro e w6 ⟨rfl, e6⟩; cases e6)
    refine wpAny_ready (rs := [19]) (by kernel_rfl) (by simp) ?_
    refine AllReady.cons rfl (fun K hK => ?_) AllReady.nil
    go_simp
    refine hK _ _ ?_
    clear hK K
    refine wpAny_ready (rs := [20]) (by kernel_rfl) (by simp) ?_
    refine AllReady.cons rfl (fun K hK => ?_) AllReady.nil
    go_simp
    refine hK _ _ ?_
    clear hK K
    refine wpAny_ready (rs := [21]) (by kernel_rfl) (by simp) ?_
    refine AllReady.cons rfl (fun K hK => ?_) AllReady.nil
    go_simp
    refine hK _ _ ?_
    clear hK K
    refine wpAny_done (by kernel_rfl) ?_ _
    go_wp2
    go_ret
    exact ⟨rfl, HB5.out⟩

theorem lawHgtAt (a : Option Addr) (len cap : Nat) (b : Option Addr) (len2 cap2 : Nat) (w : World) (h : IsCode w a len cap) (h2 : IsCode w b len2 cap2) :
    Calls Try.prog 3 #[.slice a len cap, .slice b len2 cap2] w fun e w' => e = .returned (.bool true) ∧ Below w.heap.size w w' := by
  by_cases hl : len ≤ 1048576
  · by_cases hl2 : len2 ≤ 1048576
    · exact lawHgtAt_walk a b len cap len2 cap2 hl hl2 w h h2
    · have hl' : ¬ (1048576 : Int) < (len : Int) := by omega
      have hl2' : (1048576 : Int) < (len2 : Int) := by omega
      clear h h2
      go_enter Try.func3, Try.ntmps3
      go_wp2
      go_ret
      exact ⟨rfl, Below.refl _ _⟩
  · have hl' : (1048576 : Int) < (len : Int) := by omega
    clear h h2
    go_enter Try.func3, Try.ntmps3
    go_wp2
    go_ret
    exact ⟨rfl, Below.refl _ _⟩
end Go.Proofs.Ytmdghonefdmihag
