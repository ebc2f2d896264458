/-
  PROVED HERE: the program's bestOf and BrdBest answer the best of any borders in memory; nothing that was in memory is turned. Also: what the model's BrdBeats answers at any two borders. Also: the model's BrdBest answers the best of any borders in memory; nothing that was in memory is turned. Also: what the model's l1Among answers at every argument; nothing in memory is turned. Also: what the model's GrdAt answers at a grid that lies in memory: the first cell that has a slot; nothing that was in memory is turned.
-/
import Derived.Test.YtfkkhfiiokhnaagB22
import Derived.Test.YtfkkhfiiokhnaagB1
import Derived.Test.YtfkkhfiiokhnaagB5
import Derived.WalkLawsBesides
import Derived.WalkSpells
import Derived.Deep.DeepCutAuto
namespace Go.Proofs.Ytfkkhfiiokhnaag
open Go.RowKit

theorem implbeatsB (a b c d : Int) (w : World) : Calls Try.prog 45 #[.agg #[.int .i64 a, .int .i64 b], .agg #[.int .i64 c, .int .i64 d]] w fun e w' => e = .returned (.bool (beatsB a b c d)) ∧ Below w.heap.size w w' := (implbeats a b c d w).mono (fun _ _ ⟨h1, h2⟩ => ⟨h1, by rw [h2]; exact k_alloc (k_alloc (Below.refl _ _) _) _⟩)
set_option maxRecDepth 100000 in
set_option maxHeartbeats 1000000 in
theorem implbestOf (v : Value) (l : List Fr) (hl : l.length ≤ 1000000) (w : World) {z : Nat} (h : FrsAt w z v l) :
    Calls Try.prog 47 #[v] w fun e w' => e = .returned (.agg #[.int .i64 (bestF l).s, .int .i64 (bestF l).w, .int .i64 (bestF l).c]) ∧ Below w.heap.size w w' := by
  obtain ⟨a, cap, rfl, hlen⟩ := At.form h
  by_cases h0 : l.length = 0
  · obtain rfl : l = [] := List.eq_nil_of_length_eq_zero h0
    clear h
    go_enter Try.func47, Try.ntmps47
    go_wp2
    exact bodyPost_ret (v := .agg #[.int .i64 0, .int .i64 0, .int .i64 (-1)]) (by simp [results, Try.results47, go_sem]) rfl ⟨rfl, by repeat (first | exact Below.refl _ _ | apply k_alloc)⟩
  obtain ⟨n, hn⟩ : ∃ n, l.length = n + 1 := ⟨l.length - 1, by omega⟩
  have hK0 := k_alloc (Below.refl w.heap.size w) (.cells #[.int .i64 0, .int .i64 0, .int .i64 0] 42)
  have HA := Hid.intro (h.kept hK0)
  have X0 := newestB w (.cells #[.int .i64 0, .int .i64 0, .int .i64 0] 42)
  have hs0 : (w.alloc (.cells #[.int .i64 0, .int .i64 0, .int .i64 0] 42)).heap.size = w.heap.size + 1 := by simp
  obtain ⟨b, off, cap', e', hc1, hc2, hbl, x0, x1, x2⟩ := At.get (h.kept hK0) (i := 0) (by omega)
  simp only [Value.slice.injEq, true_and] at e'
  obtain ⟨rfl, rfl⟩ := e'
  rw [hn] at hc1 ⊢
  unfold maxLen at hc2
  have HB0 : Hid (l.getD 0 dF = bestTo l 1) := by rw [Hid, bestTo, if_pos rfl]
  have HK0 := Hid.intro hK0
  have HX0 := Hid.intro X0
  have HN := Hid.intro hn
  have hne : (((n : Int) + 1) == 0) = false := beq_eq_false_iff_ne.2 (by omega)
  rw [HB0.out] at x0 x1 x2
  rw [Nat.zero_mul, Nat.add_zero] at x0 x1 x2
  have h0 := h
  clear h hn hlen hK0 X0
  go_enter Try.func47, Try.ntmps47
  go_upto_region 3 with fail
  generalize w.alloc (.cells #[.int .i64 0, .int .i64 0, .int .i64 0] 42) = W0 at HA hs0 hbl x0 x1 x2 HK0 HX0 ⊢
  have HX1 := Hid.intro (newestB W0 (.cells #[.int .i64 (bestTo l 1).s, .int .i64 (bestTo l 1).w, .int .i64 (bestTo l 1).c] 42))
  have HZ1 := Hid.intro ((Below.heap_alloc W0 (.cells #[.int .i64 (bestTo l 1).s, .int .i64 (bestTo l 1).w, .int .i64 (bestTo l 1).c] 42) w.heap.size (by omega)).trans HX0.out)
  have HK1 := Hid.intro (k_alloc HK0.out (.cells #[.int .i64 (bestTo l 1).s, .int .i64 (bestTo l 1).w, .int .i64 (bestTo l 1).c] 42))
  have HA1 := Hid.intro (HA.out.kept (k_alloc (Below.refl _ _) (.cells #[.int .i64 (bestTo l 1).s, .int .i64 (bestTo l 1).w, .int .i64 (bestTo l 1).c] 42)))
  rw [hs0] at HX1
  go_upto_region 4 with fail
  generalize W0.alloc (.cells #[.int .i64 (bestTo l 1).s, .int .i64 (bestTo l 1).w, .int .i64 (bestTo l 1).c] 42) = W1 at HX1 HZ1 HK1 HA1 ⊢
  clear HA x0 x1 x2 HK0 HX0 hs0 hbl
  by_cases hcap : cap = 1
  · subst hcap
    obtain rfl : n = 0 := by omega
    have HX := HX1
    have HZ := HZ1
    have HK := HK1
    go_wp2_with fail
    go_loopw [16] (fun s W => s = .int .i64 0 ∧ Hid (W = W1)) (fun _ _ => 0)
    case atStart => exact ⟨rfl, rfl⟩
    case round =>
      obtain ⟨rfl, HW⟩ := hrel
      obtain rfl := HW.out
      obtain ⟨⟨c0, c1, c2⟩, _⟩ := cells3 HX.out
      obtain ⟨⟨d0, d1, d2⟩, f0, f1, f2⟩ := cells3 HZ.out
      have HBl : Hid (Below w.heap.size w (st3 _ w.heap.size (.int .i64 (bestTo l 1).s) (.int .i64 (bestTo l 1).w) (.int .i64 (bestTo l 1).c))) := HK.out.trans ((st3_bk _ _ _ _ _).below HK.out.size (Nat.le_refl _))
      have HE : Hid (bestF l = bestTo l 1) := by rw [Hid, bestF, HN.out]
      generalize bestTo l 1 = y at *
      go_wp2
      exact bodyPost_ret (v := .agg #[.int .i64 y.s, .int .i64 y.w, .int .i64 y.c]) (by simp [results, Try.results47, go_sem, d0, d1, d2]) rfl ⟨by rw [HE.out], HBl.out⟩
  · have hc3 : (n : Int) + 1 ≤ (cap : Int) := by omega
    go_wp2_with fail
    go_loopw [16] (fun s W => ∃ k : Nat, s = .int .i64 k ∧ k ≤ n ∧ Hid (W.heap[w.heap.size + 1]? = some (.cells #[.int .i64 (bestTo l (k + 1)).s, .int .i64 (bestTo l (k + 1)).w, .int .i64 (bestTo l (k + 1)).c] 42)) ∧ Hid (W.heap[w.heap.size]? = some (.cells #[.int .i64 0, .int .i64 0, .int .i64 0] 42)) ∧ Hid (Below w.heap.size w W)) (fun s _ => n - (intOf s).toNat)
    case atStart => exact ⟨0, rfl, Nat.zero_le _, HX1, HZ1, HK1⟩
    case round =>
      obtain ⟨k, rfl, hk, HX, HZ, HK⟩ := hrel
      by_cases hlt : k < n
      case neg =>
        obtain rfl : k = n := by omega
        obtain ⟨⟨c0, c1, c2⟩, _⟩ := cells3 HX.out
        obtain ⟨⟨d0, d1, d2⟩, f0, f1, f2⟩ := cells3 HZ.out
        have HBl : Hid (Below w.heap.size w (st3 _ w.heap.size (.int .i64 (bestTo l (k + 1)).s) (.int .i64 (bestTo l (k + 1)).w) (.int .i64 (bestTo l (k + 1)).c))) := HK.out.trans ((st3_bk _ _ _ _ _).below HK.out.size (Nat.le_refl _))
        have HE : Hid (bestF l = bestTo l (k + 1)) := by rw [Hid, bestF, HN.out]
        generalize bestTo l (k + 1) = y at *
        go_wp2
        exact bodyPost_ret (v := .agg #[.int .i64 y.s, .int .i64 y.w, .int .i64 y.c]) (by simp [results, Try.results47, go_sem, d0, d1, d2]) rfl ⟨by rw [HE.out], HBl.out⟩
      case pos =>
        obtain ⟨b', off', cap'', e', _, _, hbl, x0, x1, x2⟩ := At.get (h0.kept HK.out) (i := k + 1) (by rw [HN.out]; omega)
        rw [HN.out] at e'
        simp only [Value.slice.injEq, Option.some.injEq, Addr.mk.injEq, and_true, true_and] at e'
        obtain ⟨⟨rfl, rfl⟩, rfl⟩ := e'
        rw [show off + (k + 1) * 3 = off + 3 + k * 3 by omega] at x0 x1 x2
        have HY := Hid.intro (fun h => bestTo_yes (l := l) (k := k) h)
        have HNo := Hid.intro (fun h => bestTo_no (l := l) (k := k) h)
        generalize l.getD (k + 1) dF = p at x0 x1 x2 HY HNo
        have hwz : w.heap.size + 1 < wr.heap.size := (Array.getElem?_eq_some_iff.1 HX.out).1
        have HP := Hid.intro (newestB wr (.cells #[.int .i64 p.s, .int .i64 p.w, .int .i64 p.c] 42))
        have HX2 := Hid.intro ((Below.heap_alloc wr (.cells #[.int .i64 p.s, .int .i64 p.w, .int .i64 p.c] 42) (w.heap.size + 1) hwz).trans HX.out)
        have HZ2 := Hid.intro ((Below.heap_alloc wr (.cells #[.int .i64 p.s, .int .i64 p.w, .int .i64 p.c] 42) w.heap.size (by omega)).trans HZ.out)
        have HK2 := Hid.intro (k_alloc HK.out (.cells #[.int .i64 p.s, .int .i64 p.w, .int .i64 p.c] 42))
        clear HX HZ HK
        go_upto_region 7 with fail
        generalize wr.alloc (.cells #[.int .i64 p.s, .int .i64 p.w, .int .i64 p.c] 42) = W3 at HP HX2 HZ2 HK2 ⊢
        generalize wr.heap.size = pb at HP hwz ⊢
        clear x0 x1 x2 hbl
        obtain ⟨⟨c0, c1, c2⟩, _⟩ := cells3 HX2.out
        obtain ⟨⟨p0, p1, p2⟩, _⟩ := cells3 HP.out
        generalize hy : bestTo l (k + 1) = y at *
        have HBt : Hid (btF p y = beatsB p.s p.w y.s y.w) := rfl
        go_wp2_with fail
        refine (implbeatsB _ _ _ _ _).mono ?_
        rintro e w4 ⟨rfl, hb4⟩
        have hpb := (Array.getElem?_eq_some_iff.1 HP.out).1
        have hxb := (Array.getElem?_eq_some_iff.1 HX2.out).1
        have HX4 := Hid.intro ((hb4.block _ hxb).trans HX2.out)
        have HZ4 := Hid.intro ((hb4.block _ (by omega)).trans HZ2.out)
        have HP4 := Hid.intro ((hb4.block _ hpb).trans HP.out)
        have HK4 := Hid.intro (k_trans HK2.out hb4)
        clear hb4 HX2 HZ2 HP HK2 c0 c1 c2 p0 p1 p2 hpb hxb
        cases hbt : beatsB p.s p.w y.s y.w with
        | false =>
          have HE := Hid.intro (HNo.out (HBt.out.trans hbt))
          go_wp2
          go_roundw
          case rel => exact ⟨k + 1, by go_num, by omega, by rw [HE.out]; exact HX4, HZ4, HK4⟩
          case measure => simp [intOf]; omega
        | true =>
          have HE := Hid.intro (HY.out (HBt.out.trans hbt))
          obtain ⟨⟨c0, c1, c2⟩, f0, f1, f2⟩ := cells3 HX4.out
          obtain ⟨⟨p0, p1, p2⟩, _⟩ := cells3 HP4.out
          have HX5 := Hid.intro (st3_is HX4.out (.int .i64 p.s) (.int .i64 p.w) (.int .i64 p.c))
          have hbk := st3_bk w4 (w.heap.size + 1) (.int .i64 p.s) (.int .i64 p.w) (.int .i64 p.c)
          have HZ5 := Hid.intro ((hbk.block w.heap.size (Array.getElem?_eq_some_iff.1 HZ4.out).1 (by omega)).trans HZ4.out)
          have HK5 := Hid.intro (HK4.out.trans (hbk.below HK4.out.size (by omega)))
          clear HX4 HZ4 HP4 HK4 hbk
          go_wp2
          go_roundw
          case rel => exact ⟨k + 1, by go_num, by omega, by rw [HE.out]; exact HX5, HZ5, HK5⟩
          case measure => simp [intOf]; omega
set_option maxRecDepth 100000 in
theorem implBrdBest (v : Value) (l : List Fr) (hl : l.length ≤ 1000000) (w : World) {z : Nat} (h : FrsAt w z v l) :
    Calls Try.prog 19 #[v] w fun e w' => e = .returned (.agg #[.int .i64 (bestF l).s, .int .i64 (bestF l).w, .int .i64 (bestF l).c]) ∧ Below w.heap.size w w' := by
  have K := k_alloc (Below.refl w.heap.size w) (.cells #[.int .i64 0, .int .i64 0, .int .i64 0] 42)
  have X0 := newestB w (.cells #[.int .i64 0, .int .i64 0, .int .i64 0] 42)
  have HA := Hid.intro (h.kept K)
  have HK := Hid.intro K
  have HX := Hid.intro X0
  clear h K X0
  go_enter Try.func19, Try.ntmps19
  go_wp2_with fail
  refine (implbestOf v l hl _ HA.out).mono ?_
  rintro e w1 ⟨rfl, hb1⟩
  have X1 := (hb1.block w.heap.size (by simp)).trans HX.out
  obtain ⟨⟨d0, d1, d2⟩, f0, f1, f2⟩ := cells3 X1
  have HK1 := Hid.intro (k_trans HK.out hb1)
  have HBl := Hid.intro (HK1.out.trans ((st3_bk w1 w.heap.size (.int .i64 (bestF l).s) (.int .i64 (bestF l).w) (.int .i64 (bestF l).c)).below HK1.out.size (Nat.le_refl _)))
  clear hb1 X1 HK HX HK1 HA
  go_wp2
  exact bodyPost_ret (v := .agg #[.int .i64 (bestF l).s, .int .i64 (bestF l).w, .int .i64 (bestF l).c]) (by simp [results, Try.results19, go_sem, d0, d1, d2]) rfl ⟨rfl, HBl.out⟩
end Go.Proofs.Ytfkkhfiiokhnaag
namespace Go.Proofs.Ytfkkhfiiokhnaag
open Go.RowKit

set_option maxRecDepth 100000 in
set_option maxHeartbeats 400000 in
theorem specBrdBeats (a b c d : Int) (w : World) :
    Calls Try.prog 16 #[.agg #[.int .i64 a, .int .i64 b], .agg #[.int .i64 c, .int .i64 d]] w fun e w' => e = .returned (.bool (beatsB a b c d)) ∧ w' = (w.alloc (.cells #[.int .i64 a, .int .i64 b] 34)).alloc (.cells #[.int .i64 c, .int .i64 d] 34) := by
  by_cases ha : a = 4
  · subst ha
    by_cases hc : c = 4
    · subst hc
      have HB := Hid.intro (beats_hid2 (a := 4) b d)
      go_enter Try.func16, Try.ntmps16
      go_wp2
      go_ret
      exact ⟨retB HB.out.symm, rfl⟩
    · have e1 : (c == 4) = false := beq_eq_false_iff_ne.2 hc
      have e2 : (c != 4) = true := bne_iff_ne.2 hc
      have HB := Hid.intro (beats_hid1 b d hc)
      clear hc
      go_enter Try.func16, Try.ntmps16
      go_wp2
      go_ret
      exact ⟨retB HB.out.symm, rfl⟩
  have a1 : (a == 4) = false := beq_eq_false_iff_ne.2 ha
  by_cases hc : c = 4
  · subst hc
    have HB := Hid.intro (beats_hid2 (a := a) b d)
    clear ha
    go_enter Try.func16, Try.ntmps16
    go_wp2
    go_ret
    exact ⟨retB HB.out.symm, rfl⟩
  have e1 : (c == 4) = false := beq_eq_false_iff_ne.2 hc
  by_cases h : b = d
  · subst h
    have HB := Hid.intro (beats_style (b := b) ha hc)
    clear ha hc
    go_enter Try.func16, Try.ntmps16
    go_wp2
    go_ret
    exact ⟨retB HB.out.symm, rfl⟩
  · have h1 : (b != d) = true := bne_iff_ne.2 h
    have HB := Hid.intro (beats_wide ha hc h)
    clear ha hc h
    go_enter Try.func16, Try.ntmps16
    go_wp2
    go_ret
    exact ⟨retB HB.out.symm, rfl⟩
end Go.Proofs.Ytfkkhfiiokhnaag
namespace Go.Proofs.Ytfkkhfiiokhnaag
open Go.RowKit

theorem more0 {w : World} {g : Nat} {o : Obj} (h : w.heap[g]? = some o) (q : Obj) : (w.alloc q).heap[g]? = some o := (Below.heap_alloc _ _ _ (Array.getElem?_eq_some_iff.1 h).1).trans h
set_option maxRecDepth 100000 in
set_option maxHeartbeats 1000000 in
theorem specBrdBest (v : Value) (l : List Fr) (hl : l.length ≤ 1000000) (w : World) {z : Nat} (h : FrsAt w z v l) :
    Calls Try.prog 20 #[v] w fun e w' => e = .returned (.agg #[.int .i64 (bestF l).s, .int .i64 (bestF l).w, .int .i64 (bestF l).c]) ∧ Below w.heap.size w w' := by
  have hmx : Try.prog.follows .mixedOrders = true := by kernel_rfl
  obtain ⟨a, cap, rfl, hlen⟩ := At.form h
  have HH := Hid.intro h
  have K2 := k_alloc (k_alloc (Below.refl w.heap.size w) (.cells #[.int .i64 0, .int .i64 0, .int .i64 0] 42)) (.cells #[.int .i64 0, .int .i64 0, .int .i64 (-1)] 42)
  have X0 := more0 (newestB w (.cells #[.int .i64 0, .int .i64 0, .int .i64 0] 42)) (.cells #[.int .i64 0, .int .i64 0, .int .i64 (-1)] 42)
  have X1 : ((w.alloc (.cells #[.int .i64 0, .int .i64 0, .int .i64 0] 42)).alloc (.cells #[.int .i64 0, .int .i64 0, .int .i64 (-1)] 42)).heap[w.heap.size + 1]? = some (.cells #[.int .i64 0, .int .i64 0, .int .i64 (-1)] 42) := by
    have := newestB (w.alloc (.cells #[.int .i64 0, .int .i64 0, .int .i64 0] 42)) (.cells #[.int .i64 0, .int .i64 0, .int .i64 (-1)] 42)
    simpa using this
  have HX := Hid.intro (And.intro X0 X1)
  have HK := Hid.intro K2
  have KB := Hid.intro (fun (W : World) (p : BW W) (x y z u : Int) => bw_of ((specBrdBeats x y z u p.u).mono (fun _ _ ⟨h1, h2⟩ => And.intro h1 (by rw [h2]; exact k_alloc (k_alloc (Below.refl _ _) _) _))))
  clear h K2 X0 X1
  go_enter Try.func20, Try.ntmps20
  go_wp2_with fail
  go_loopw [4] (fun s W => ∃ k : Nat, s = .int .i64 k ∧ k ≤ l.length ∧ Hid (W.heap[w.heap.size + 1]? = some (.cells #[.int .i64 (bestTo l k).s, .int .i64 (bestTo l k).w, .int .i64 (bestTo l k).c] 42)) ∧ Hid (W.heap[w.heap.size]? = some (.cells #[.int .i64 0, .int .i64 0, .int .i64 0] 42)) ∧ Hid (Below w.heap.size w W)) (fun s _ => l.length - (intOf s).toNat)
  case atStart => exact ⟨0, rfl, Nat.zero_le _, HX.out.2, HX.out.1, HK⟩
  case round =>
    clear HX HK
    obtain ⟨k, rfl, hk, HX, HZ, HK⟩ := hrel
    by_cases hlt : k < l.length
    case neg =>
      obtain rfl : k = l.length := by omega
      obtain ⟨⟨c0, c1, c2⟩, _⟩ := cells3 HX.out
      obtain ⟨⟨d0, d1, d2⟩, f0, f1, f2⟩ := cells3 HZ.out
      have HBl := Hid.intro (HK.out.trans ((st3_bk wr w.heap.size (.int .i64 (bestTo l l.length).s) (.int .i64 (bestTo l l.length).w) (.int .i64 (bestTo l l.length).c)).below HK.out.size (Nat.le_refl _)))
      have HE : Hid (bestF l = bestTo l l.length) := rfl
      generalize bestTo l l.length = y at *
      go_wp2
      exact bodyPost_ret (v := .agg #[.int .i64 y.s, .int .i64 y.w, .int .i64 y.c]) (by simp [results, Try.results20, go_sem, d0, d1, d2]) rfl ⟨by rw [HE.out], HBl.out⟩
    obtain ⟨b, off, cap', e', hc1, hc2, hbl, x0, x1, x2⟩ := At.get (HH.out.kept HK.out) hlt
    simp only [Value.slice.injEq, true_and] at e'
    obtain ⟨rfl, rfl⟩ := e'
    unfold maxLen at hc2
    have hwz : w.heap.size + 1 < wr.heap.size := (Array.getElem?_eq_some_iff.1 HX.out).1
    have HE0 : Hid (k = 0 → bestTo l (k + 1) = l.getD k dF) := fun h => by subst h; rw [bestTo, if_pos rfl]
    have HEy : Hid (k ≠ 0 → btF (l.getD k dF) (bestTo l k) = true → bestTo l (k + 1) = l.getD k dF) := fun h h2 => by rw [bestTo, if_neg h, if_pos h2]
    have HEn : Hid (k ≠ 0 → btF (l.getD k dF) (bestTo l k) = false → bestTo l (k + 1) = bestTo l k) := fun h h2 => by rw [bestTo, if_neg h, if_neg (by rw [h2]; simp)]
    generalize l.getD k dF = p at x0 x1 x2 HE0 HEy HEn
    generalize bestTo l k = y at HX HEy HEn
    have hne := bw_some wr
    have m0 := bw_cell hbl x0
    have m1 := bw_cell hbl x1
    have m2 := bw_cell (a := ⟨w.heap.size + 1, 0, none⟩) hwz (cellB (p := 0) HX.out)
    have m3 := bw_cell (a := ⟨w.heap.size + 1, 1, none⟩) hwz (cellB (p := 1) HX.out)
    have HPc := Hid.intro (And.intro hbl (And.intro x0 (And.intro x1 x2)))
    have HBt : Hid (btF p y = beatsB p.s p.w y.s y.w) := rfl
    clear x0 x1 x2
    go_upto_region 5 with fail
    refine wp_region_quiet_below hmx (by kernel_rfl) ?_
    by_cases hk0 : k = 0
    case pos =>
      subst hk0
      have HE := Hid.intro (HE0.out rfl)
      repeat (go_big_quiet_step (first | (go_at_call 16; refine KB.out _ _ _ _ _ _)))
      refine wpQuiet_nil ?_
      intro W5 hw'
      obtain ⟨⟨Wx, hW5⟩, hw''⟩ := hw'
      subst hw''
      clear m0 m1 m2 m3 hne
      have HX5 := (hW5.block _ hwz).trans HX.out
      have HZ5 := (hW5.block w.heap.size (by omega)).trans HZ.out
      have HK5 := k_trans HK.out hW5
      have x0 := (hW5.cell (p := ⟨b, _, none⟩) HPc.out.1).trans HPc.out.2.1
      have x1 := (hW5.cell (p := ⟨b, _, none⟩) HPc.out.1).trans HPc.out.2.2.1
      have x2 := (hW5.cell (p := ⟨b, _, none⟩) HPc.out.1).trans HPc.out.2.2.2
      simp only [Nat.zero_mul, Nat.add_zero] at x0 x1 x2
      obtain ⟨⟨c0, c1, c2⟩, f0, f1, f2⟩ := cells3 HX5
      have HX6 := Hid.intro (st3_is HX5 (.int .i64 p.s) (.int .i64 p.w) (.int .i64 p.c))
      have hbk := st3_bk W5 (w.heap.size + 1) (.int .i64 p.s) (.int .i64 p.w) (.int .i64 p.c)
      have HZ6 := Hid.intro ((hbk.block w.heap.size (Array.getElem?_eq_some_iff.1 HZ5).1 (by omega)).trans HZ5)
      have HK6 := Hid.intro (HK5.trans (hbk.below HK5.size (by omega)))
      clear hW5 HX HZ HK HX5 HZ5 HK5 hbk HPc
      go_wp2
      go_roundw
      case rel => exact ⟨0 + 1, by go_num, by omega, by rw [HE.out]; exact HX6, HZ6, HK6⟩
      case measure => simp [intOf]; omega
    case neg =>
      have hkb : (((k : Int)) == 0) = false := beq_eq_false_iff_ne.2 (by omega)
      cases hbt : beatsB p.s p.w y.s y.w with
      | false =>
        have HE := Hid.intro (HEn.out hk0 (HBt.out.trans hbt))
        repeat (go_big_quiet_step (first | (go_at_call 16; refine KB.out _ _ _ _ _ _)))
        refine wpQuiet_nil ?_
        intro W5 hw'
        obtain ⟨⟨Wx, hW5⟩, hw''⟩ := hw'
        subst hw''
        have HX5 := Hid.intro ((hW5.block _ hwz).trans HX.out)
        have HZ5 := Hid.intro ((hW5.block _ (by omega)).trans HZ.out)
        have HK5 := Hid.intro (k_trans HK.out hW5)
        clear m0 m1 m2 m3 hne hW5 HX HZ HK HPc
        go_wp2
        go_roundw
        case rel => exact ⟨k + 1, by go_num, by omega, by rw [HE.out]; exact HX5, HZ5, HK5⟩
        case measure => simp [intOf]; omega
      | true =>
        have HE := Hid.intro (HEy.out hk0 (HBt.out.trans hbt))
        repeat (go_big_quiet_step (first | (go_at_call 16; refine KB.out _ _ _ _ _ _)))
        refine wpQuiet_nil ?_
        intro W5 hw'
        obtain ⟨⟨Wx, hW5⟩, hw''⟩ := hw'
        subst hw''
        clear m0 m1 m2 m3 hne
        have HX5 := (hW5.block _ hwz).trans HX.out
        have HZ5 := (hW5.block w.heap.size (by omega)).trans HZ.out
        have HK5 := k_trans HK.out hW5
        have x0 := (hW5.cell (p := ⟨b, _, none⟩) HPc.out.1).trans HPc.out.2.1
        have x1 := (hW5.cell (p := ⟨b, _, none⟩) HPc.out.1).trans HPc.out.2.2.1
        have x2 := (hW5.cell (p := ⟨b, _, none⟩) HPc.out.1).trans HPc.out.2.2.2
        obtain ⟨⟨c0, c1, c2⟩, f0, f1, f2⟩ := cells3 HX5
        have HX6 := Hid.intro (st3_is HX5 (.int .i64 p.s) (.int .i64 p.w) (.int .i64 p.c))
        have hbk := st3_bk W5 (w.heap.size + 1) (.int .i64 p.s) (.int .i64 p.w) (.int .i64 p.c)
        have HZ6 := Hid.intro ((hbk.block w.heap.size (Array.getElem?_eq_some_iff.1 HZ5).1 (by omega)).trans HZ5)
        have HK6 := Hid.intro (HK5.trans (hbk.below HK5.size (by omega)))
        clear hW5 HX HZ HK HX5 HZ5 HK5 hbk HPc
        go_wp2
        go_roundw
        case rel => exact ⟨k + 1, by go_num, by omega, by rw [HE.out]; exact HX6, HZ6, HK6⟩
        case measure => simp [intOf]; omega
end Go.Proofs.Ytfkkhfiiokhnaag
namespace Go.Proofs.Ytfkkhfiiokhnaag
open Go.RowKit

theorem l1Among_any (x f m : Int) (hx : I64 x) (hf : I64 f) (hm : I64 m) (w : World) :
    Calls Try.prog 43 #[.int .i64 x, .int .i64 f, .int .i64 m] w fun e w' => e = .returned (.bool (amongB x f m)) ∧ w' = w := by
  unfold I64 at hx hf hm
  by_cases h1 : x < f
  · have e : amongB x f m = false := by simp [amongB]; omega
    rw [e]
    go_enter Try.func43, Try.ntmps43
    go_wp2
    go_ret
    exact ⟨rfl, rfl⟩
  · by_cases h2 : m ≤ 0
    · have e : amongB x f m = false := by simp [amongB]; omega
      rw [e]
      go_enter Try.func43, Try.ntmps43
      go_wp2
      go_ret
      exact ⟨rfl, rfl⟩
    · by_cases h3 : f < 0
      · by_cases h4 : 0 ≤ x
        · have e : amongB x f m = decide (x < m + f) := by
            have : decide (x - f < m) = decide (x < m + f) := by apply decide_eq_decide.2; omega
            simp only [amongB, this]; simp; omega
          rw [e]
          go_enter Try.func43, Try.ntmps43
          go_wp2
          go_ret
          exact ⟨rfl, rfl⟩
        · have e : amongB x f m = decide (x - f < m) := by simp [amongB]; omega
          rw [e]
          go_enter Try.func43, Try.ntmps43
          go_wp2
          go_ret
          exact ⟨rfl, rfl⟩
      · have e : amongB x f m = decide (x - f < m) := by simp [amongB]; omega
        rw [e]
        go_enter Try.func43, Try.ntmps43
        go_wp2
        go_ret
        exact ⟨rfl, rfl⟩
end Go.Proofs.Ytfkkhfiiokhnaag
namespace Go.Proofs.Ytfkkhfiiokhnaag
open Go.RowKit

set_option maxRecDepth 100000 in
theorem l3Holds_any (x : GC) (hx : GOk x) (row col : Int) (hr : I64 row) (hc : I64 col) (w : World) :
    Calls Try.prog 85 #[.agg #[.int .i64 x.row, .int .i64 x.col, .int .i64 x.rows, .int .i64 x.cols, .int .i64 x.ins], .int .i64 row, .int .i64 col] w fun e w' => e = .returned (.bool (holdsB row col x)) ∧ Below w.heap.size w w' := by
  obtain ⟨h0, h1, h2, h3, _⟩ := hx
  unfold holdsB
  have H1 := Hid.intro (l1Among_any row x.row x.rows hr h0 h2)
  have H2 := Hid.intro (l1Among_any col x.col x.cols hc h1 h3)
  generalize amongB row x.row x.rows = p at H1 ⊢
  generalize amongB col x.col x.cols = q at H2 ⊢
  cases p with
  | false =>
    go_enter Try.func85, Try.ntmps85
    go_wp2_with fail
    refine (H1.out _).mono ?_
    rintro e w1 ⟨rfl, rfl⟩
    go_wp2
    go_ret
    exact ⟨rfl, k_alloc (Below.refl _ _) _⟩
  | true =>
    go_enter Try.func85, Try.ntmps85
    go_wp2_with fail
    refine (H1.out _).mono ?_
    rintro e w1 ⟨rfl, rfl⟩
    go_wp2_with fail
    refine (H2.out _).mono ?_
    rintro e w1 ⟨rfl, rfl⟩
    go_wp2
    go_ret
    exact ⟨by cases q <;> rfl, k_alloc (Below.refl _ _) _⟩

set_option maxRecDepth 100000 in
set_option maxHeartbeats 1000000 in
theorem specGrdAt (a b : Int) (ac : Option Addr) (cc : Nat) (gs : List GC) (row col : Int) (hr : I64 row) (hc : I64 col) (w : World) {z : Nat} (h : GsAt w z (.slice ac gs.length cc) gs) :
    Calls Try.prog 70 #[.agg #[.int .i64 a, .int .i64 b, .slice ac gs.length cc], .int .i64 row, .int .i64 col] w fun e w' => e = .returned (.int .i64 (findTo (holdsB row col) gs)) ∧ Below w.heap.size w w' := by
  obtain ⟨_, _, _, hlen⟩ := At.form h
  unfold maxLen at hlen
  have H := Hid.intro h
  clear h
  have KA := Hid.intro (k_alloc (Below.refl w.heap.size w) (.cells #[.int .i64 a, .int .i64 b, .slice ac gs.length cc] 56))
  go_enter Try.func70, Try.ntmps70
  go_wp2_with fail
  go_loopw [7] (fun i W => ∃ k : Nat, k ≤ gs.length ∧ i = .int .i64 k ∧ Hid (∀ j, j < k → holdsB row col (gs.getD j dG) = false) ∧ Hid (Below w.heap.size w W) ∧ Hid (W.heap[w.heap.size]? = some (.cells #[.int .i64 a, .int .i64 b, .slice ac gs.length cc] 56))) (fun i _ => gs.length - (intOf i).toNat)
  case atStart => exact ⟨0, Nat.zero_le _, rfl, fun j hj => absurd hj (Nat.not_lt_zero _), KA.out, newestB _ _⟩
  case round =>
    obtain ⟨k, hk, rfl, HA, HB, HX⟩ := hrel
    have g2 : wr.cell? ⟨w.heap.size, 2, none⟩ = some (.slice ac gs.length cc) := cellB HX.out
    by_cases hlt : k < gs.length
    · obtain ⟨q, off, cap', e', hc1, hc2, hbl, hx, hs⟩ := At.get (H.out.kept HB.out) hlt
      simp only [Value.slice.injEq, true_and] at e'
      obtain ⟨rfl, rfl⟩ := e'
      have HH : Hid (holdsB row col (gs.getD k dG) = true → findTo (holdsB row col) gs = (k : Int)) := fun hp => findTo_hit hlt HA.out hp
      have HN : Hid (holdsB row col (gs.getD k dG) = false → ∀ j, j < k + 1 → holdsB row col (gs.getD j dG) = false) := fun hp j hj => by
        rcases Nat.lt_or_eq_of_le (Nat.lt_succ_iff.1 hj) with h1 | rfl
        · exact HA.out j h1
        · exact hp
      have HL := Hid.intro (l3Holds_any (gs.getD k dG) hs row col hr hc)
      generalize gs.getD k dG = x at hx HH HN HL
      obtain ⟨x0, x1, x2, x3, x4⟩ := hx
      unfold maxLen at hc2
      clear hs
      cases h1 : holdsB row col x with
      | false =>
        have HF := Hid.intro (HN.out h1)
        rw [h1] at HL
        clear HH HN HA
        go_wp2_with fail
        refine (HL.out _).mono ?_
        rintro e w1 ⟨rfl, hb1⟩
        have HB1 := Hid.intro (k_trans HB.out hb1)
        have HX1 : Hid (w1.heap[w.heap.size]? = some (.cells #[.int .i64 a, .int .i64 b, .slice (some ⟨q, off, none⟩) gs.length cc] 56)) := (hb1.block w.heap.size (lt_of_blockG HX.out)).trans HX.out
        clear hb1
        go_wp2
        go_roundw
        case rel => exact ⟨k + 1, by omega, by go_num, HF, HB1, HX1⟩
        case measure => simp [intOf]; omega
      | true =>
        have HF := Hid.intro (HH.out h1)
        rw [h1] at HL
        clear HH HN HA
        go_wp2_with fail
        refine (HL.out _).mono ?_
        rintro e w1 ⟨rfl, hb1⟩
        have HB1 := Hid.intro (k_trans HB.out hb1)
        clear hb1
        go_wp2
        go_ret
        exact ⟨by rw [HF.out]; rfl, HB1.out⟩
    · obtain rfl : k = gs.length := by omega
      have HF := Hid.intro (findTo_none HA.out)
      clear HA
      go_wp2
      go_ret
      exact ⟨by rw [HF.out]; rfl, HB.out⟩

end Go.Proofs.Ytfkkhfiiokhnaag
