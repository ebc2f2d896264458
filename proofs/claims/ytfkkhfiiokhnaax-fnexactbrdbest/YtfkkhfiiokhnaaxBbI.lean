/-
  PROVED HERE: the program's bestOf and BrdBest answer the best of any borders in memory; nothing that was in memory is turned.
-/
import Derived.Test.YtfkkhfiiokhnaaxBbB
import Derived.Test.YtfkkhfiiokhnaaxBtI0
import Derived.WalkLawsBesides
import Derived.WalkSpells
import Derived.Deep.DeepCutAuto
namespace Go.Proofs.Ytfkkhfiiokhnaax
open Go.RowKit

theorem implbeatsB (a b c d : Int) (w : World) : Calls Try.prog 32 #[.agg #[.int .i64 a, .int .i64 b], .agg #[.int .i64 c, .int .i64 d]] w fun e w' => e = .returned (.bool (beatsB a b c d)) ∧ Below w.heap.size w w' := (implbeats a b c d w).mono (fun _ _ ⟨h1, h2⟩ => ⟨h1, by rw [h2]; exact k_alloc (k_alloc (Below.refl _ _) _) _⟩)
set_option maxRecDepth 100000 in
set_option maxHeartbeats 1000000 in
theorem implbestOf (v : Value) (l : List Fr) (hl : l.length ≤ 1048576) (w : World) {z : Nat} (h : FrsAt w z v l) :
    Calls Try.prog 34 #[v] w fun e w' => e = .returned (.agg #[.int .i64 (bestF l).s, .int .i64 (bestF l).w, .int .i64 (bestF l).c]) ∧ Below w.heap.size w w' := by
  obtain ⟨a, cap, rfl, hlen⟩ := At.form h
  by_cases h0 : l.length = 0
  · obtain rfl : l = [] := List.eq_nil_of_length_eq_zero h0
    clear h
    go_enter Try.func34, Try.ntmps34
    go_wp2
    exact bodyPost_ret (v := .agg #[.int .i64 0, .int .i64 0, .int .i64 (-1)]) (by simp [results, Try.results34, go_sem]) rfl ⟨rfl, by repeat (first | exact Below.refl _ _ | apply k_alloc)⟩
  obtain ⟨n, hn⟩ : ∃ n, l.length = n + 1 := ⟨l.length - 1, by omega⟩
  have hK0 := k_alloc (Below.refl w.heap.size w) (.cells #[.int .i64 0, .int .i64 0, .int .i64 0] 31)
  have HA := Hid.intro (h.kept hK0)
  have X0 := newestB w (.cells #[.int .i64 0, .int .i64 0, .int .i64 0] 31)
  have hs0 : (w.alloc (.cells #[.int .i64 0, .int .i64 0, .int .i64 0] 31)).heap.size = w.heap.size + 1 := by simp
  obtain ⟨b, off, cap', e', hc1, hc2, hbl, x0, x1, x2⟩ := At.get (h.kept hK0) (i := 0) (by omega)
  simp only [Value.slice.injEq, true_and] at e'
  obtain ⟨rfl, rfl⟩ := e'
  rw [hn] at hc1 ⊢
  unfold maxLen at hc2
  have HB0 : Hid (l.getD 0 dF = bestTo l 1) := by rw [Hid, bestTo, if_pos rfl]
  have HK0 := Hid.intro hK0
  have HX0 := Hid.intro X0
  have HN := Hid.intro hn
  have hne : (((n : Int) + 1) == 0) = false := beq_eq_false_iff_ne.2 (by omega)
  rw [HB0.out] at x0 x1 x2
  rw [Nat.zero_mul, Nat.add_zero] at x0 x1 x2
  have h0 := h
  clear h hn hlen hK0 X0
  go_enter Try.func34, Try.ntmps34
  go_upto_region 3 with fail
  generalize w.alloc (.cells #[.int .i64 0, .int .i64 0, .int .i64 0] 31) = W0 at HA hs0 hbl x0 x1 x2 HK0 HX0 ⊢
  have HX1 := Hid.intro (newestB W0 (.cells #[.int .i64 (bestTo l 1).s, .int .i64 (bestTo l 1).w, .int .i64 (bestTo l 1).c] 31))
  have HZ1 := Hid.intro ((Below.heap_alloc W0 (.cells #[.int .i64 (bestTo l 1).s, .int .i64 (bestTo l 1).w, .int .i64 (bestTo l 1).c] 31) w.heap.size (by omega)).trans HX0.out)
  have HK1 := Hid.intro (k_alloc HK0.out (.cells #[.int .i64 (bestTo l 1).s, .int .i64 (bestTo l 1).w, .int .i64 (bestTo l 1).c] 31))
  have HA1 := Hid.intro (HA.out.kept (k_alloc (Below.refl _ _) (.cells #[.int .i64 (bestTo l 1).s, .int .i64 (bestTo l 1).w, .int .i64 (bestTo l 1).c] 31)))
  rw [hs0] at HX1
  go_upto_region 4 with fail
  generalize W0.alloc (.cells #[.int .i64 (bestTo l 1).s, .int .i64 (bestTo l 1).w, .int .i64 (bestTo l 1).c] 31) = W1 at HX1 HZ1 HK1 HA1 ⊢
  clear HA x0 x1 x2 HK0 HX0 hs0 hbl
  by_cases hcap : cap = 1
  · subst hcap
    obtain rfl : n = 0 := by omega
    have HX := HX1
    have HZ := HZ1
    have HK := HK1
    go_wp2_with fail
    go_loopw [16] (fun s W => s = .int .i64 0 ∧ Hid (W = W1)) (fun _ _ => 0)
    case atStart => exact ⟨rfl, rfl⟩
    case round =>
      obtain ⟨rfl, HW⟩ := hrel
      obtain rfl := HW.out
      obtain ⟨⟨c0, c1, c2⟩, _⟩ := cells3 HX.out
      obtain ⟨⟨d0, d1, d2⟩, f0, f1, f2⟩ := cells3 HZ.out
      have HBl : Hid (Below w.heap.size w (st3 _ w.heap.size (.int .i64 (bestTo l 1).s) (.int .i64 (bestTo l 1).w) (.int .i64 (bestTo l 1).c))) := HK.out.trans ((st3_bk _ _ _ _ _).below HK.out.size (Nat.le_refl _))
      have HE : Hid (bestF l = bestTo l 1) := by rw [Hid, bestF, HN.out]
      generalize bestTo l 1 = y at *
      go_wp2
      exact bodyPost_ret (v := .agg #[.int .i64 y.s, .int .i64 y.w, .int .i64 y.c]) (by simp [results, Try.results34, go_sem, d0, d1, d2]) rfl ⟨by rw [HE.out], HBl.out⟩
  · have hc3 : (n : Int) + 1 ≤ (cap : Int) := by omega
    go_wp2_with fail
    go_loopw [16] (fun s W => ∃ k : Nat, s = .int .i64 k ∧ k ≤ n ∧ Hid (W.heap[w.heap.size + 1]? = some (.cells #[.int .i64 (bestTo l (k + 1)).s, .int .i64 (bestTo l (k + 1)).w, .int .i64 (bestTo l (k + 1)).c] 31)) ∧ Hid (W.heap[w.heap.size]? = some (.cells #[.int .i64 0, .int .i64 0, .int .i64 0] 31)) ∧ Hid (Below w.heap.size w W)) (fun s _ => n - (intOf s).toNat)
    case atStart => exact ⟨0, rfl, Nat.zero_le _, HX1, HZ1, HK1⟩
    case round =>
      obtain ⟨k, rfl, hk, HX, HZ, HK⟩ := hrel
      by_cases hlt : k < n
      case neg =>
        obtain rfl : k = n := by omega
        obtain ⟨⟨c0, c1, c2⟩, _⟩ := cells3 HX.out
        obtain ⟨⟨d0, d1, d2⟩, f0, f1, f2⟩ := cells3 HZ.out
        have HBl : Hid (Below w.heap.size w (st3 _ w.heap.size (.int .i64 (bestTo l (k + 1)).s) (.int .i64 (bestTo l (k + 1)).w) (.int .i64 (bestTo l (k + 1)).c))) := HK.out.trans ((st3_bk _ _ _ _ _).below HK.out.size (Nat.le_refl _))
        have HE : Hid (bestF l = bestTo l (k + 1)) := by rw [Hid, bestF, HN.out]
        generalize bestTo l (k + 1) = y at *
        go_wp2
        exact bodyPost_ret (v := .agg #[.int .i64 y.s, .int .i64 y.w, .int .i64 y.c]) (by simp [results, Try.results34, go_sem, d0, d1, d2]) rfl ⟨by rw [HE.out], HBl.out⟩
      case pos =>
        obtain ⟨b', off', cap'', e', _, _, hbl, x0, x1, x2⟩ := At.get (h0.kept HK.out) (i := k + 1) (by rw [HN.out]; omega)
        rw [HN.out] at e'
        simp only [Value.slice.injEq, Option.some.injEq, Addr.mk.injEq, and_true, true_and] at e'
        obtain ⟨⟨rfl, rfl⟩, rfl⟩ := e'
        rw [show off + (k + 1) * 3 = off + 3 + k * 3 by omega] at x0 x1 x2
        have HY := Hid.intro (fun h => bestTo_yes (l := l) (k := k) h)
        have HNo := Hid.intro (fun h => bestTo_no (l := l) (k := k) h)
        generalize l.getD (k + 1) dF = p at x0 x1 x2 HY HNo
        have hwz : w.heap.size + 1 < wr.heap.size := (Array.getElem?_eq_some_iff.1 HX.out).1
        have HP := Hid.intro (newestB wr (.cells #[.int .i64 p.s, .int .i64 p.w, .int .i64 p.c] 31))
        have HX2 := Hid.intro ((Below.heap_alloc wr (.cells #[.int .i64 p.s, .int .i64 p.w, .int .i64 p.c] 31) (w.heap.size + 1) hwz).trans HX.out)
        have HZ2 := Hid.intro ((Below.heap_alloc wr (.cells #[.int .i64 p.s, .int .i64 p.w, .int .i64 p.c] 31) w.heap.size (by omega)).trans HZ.out)
        have HK2 := Hid.intro (k_alloc HK.out (.cells #[.int .i64 p.s, .int .i64 p.w, .int .i64 p.c] 31))
        clear HX HZ HK
        go_upto_region 7 with fail
        generalize wr.alloc (.cells #[.int .i64 p.s, .int .i64 p.w, .int .i64 p.c] 31) = W3 at HP HX2 HZ2 HK2 ⊢
        generalize wr.heap.size = pb at HP hwz ⊢
        clear x0 x1 x2 hbl
        obtain ⟨⟨c0, c1, c2⟩, _⟩ := cells3 HX2.out
        obtain ⟨⟨p0, p1, p2⟩, _⟩ := cells3 HP.out
        generalize hy : bestTo l (k + 1) = y at *
        have HBt : Hid (btF p y = beatsB p.s p.w y.s y.w) := rfl
        go_wp2_with fail
        refine (implbeatsB _ _ _ _ _).mono ?_
        rintro e w4 ⟨rfl, hb4⟩
        have hpb := (Array.getElem?_eq_some_iff.1 HP.out).1
        have hxb := (Array.getElem?_eq_some_iff.1 HX2.out).1
        have HX4 := Hid.intro ((hb4.block _ hxb).trans HX2.out)
        have HZ4 := Hid.intro ((hb4.block _ (by omega)).trans HZ2.out)
        have HP4 := Hid.intro ((hb4.block _ hpb).trans HP.out)
        have HK4 := Hid.intro (k_trans HK2.out hb4)
        clear hb4 HX2 HZ2 HP HK2 c0 c1 c2 p0 p1 p2 hpb hxb
        cases hbt : beatsB p.s p.w y.s y.w with
        | false =>
          have HE := Hid.intro (HNo.out (HBt.out.trans hbt))
          go_wp2
          go_roundw
          case rel => exact ⟨k + 1, by go_num, by omega, by rw [HE.out]; exact HX4, HZ4, HK4⟩
          case measure => simp [intOf]; omega
        | true =>
          have HE := Hid.intro (HY.out (HBt.out.trans hbt))
          obtain ⟨⟨c0, c1, c2⟩, f0, f1, f2⟩ := cells3 HX4.out
          obtain ⟨⟨p0, p1, p2⟩, _⟩ := cells3 HP4.out
          have HX5 := Hid.intro (st3_is HX4.out (.int .i64 p.s) (.int .i64 p.w) (.int .i64 p.c))
          have hbk := st3_bk w4 (w.heap.size + 1) (.int .i64 p.s) (.int .i64 p.w) (.int .i64 p.c)
          have HZ5 := Hid.intro ((hbk.block w.heap.size (Array.getElem?_eq_some_iff.1 HZ4.out).1 (by omega)).trans HZ4.out)
          have HK5 := Hid.intro (HK4.out.trans (hbk.below HK4.out.size (by omega)))
          clear HX4 HZ4 HP4 HK4 hbk
          go_wp2
          go_roundw
          case rel => exact ⟨k + 1, by go_num, by omega, by rw [HE.out]; exact HX5, HZ5, HK5⟩
          case measure => simp [intOf]; omega
set_option maxRecDepth 100000 in
theorem implBrdBest (v : Value) (l : List Fr) (hl : l.length ≤ 1048576) (w : World) {z : Nat} (h : FrsAt w z v l) :
    Calls Try.prog 15 #[v] w fun e w' => e = .returned (.agg #[.int .i64 (bestF l).s, .int .i64 (bestF l).w, .int .i64 (bestF l).c]) ∧ Below w.heap.size w w' := by
  have K := k_alloc (Below.refl w.heap.size w) (.cells #[.int .i64 0, .int .i64 0, .int .i64 0] 31)
  have X0 := newestB w (.cells #[.int .i64 0, .int .i64 0, .int .i64 0] 31)
  have HA := Hid.intro (h.kept K)
  have HK := Hid.intro K
  have HX := Hid.intro X0
  clear h K X0
  go_enter Try.func15, Try.ntmps15
  go_wp2_with fail
  refine (implbestOf v l hl _ HA.out).mono ?_
  rintro e w1 ⟨rfl, hb1⟩
  have X1 := (hb1.block w.heap.size (by simp)).trans HX.out
  obtain ⟨⟨d0, d1, d2⟩, f0, f1, f2⟩ := cells3 X1
  have HK1 := Hid.intro (k_trans HK.out hb1)
  have HBl := Hid.intro (HK1.out.trans ((st3_bk w1 w.heap.size (.int .i64 (bestF l).s) (.int .i64 (bestF l).w) (.int .i64 (bestF l).c)).below HK1.out.size (Nat.le_refl _)))
  clear hb1 X1 HK HX HK1 HA
  go_wp2
  exact bodyPost_ret (v := .agg #[.int .i64 (bestF l).s, .int .i64 (bestF l).w, .int .i64 (bestF l).c]) (by simp [results, Try.results15, go_sem, d0, d1, d2]) rfl ⟨rfl, HBl.out⟩
end Go.Proofs.Ytfkkhfiiokhnaax
