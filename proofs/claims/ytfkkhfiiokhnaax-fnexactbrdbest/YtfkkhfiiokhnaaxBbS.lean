/-
  PROVED HERE: the model's BrdBest answers the best of any borders in memory; nothing that was in memory is turned.
-/
import Derived.Test.YtfkkhfiiokhnaaxBbB
import Derived.Test.YtfkkhfiiokhnaaxBtS
import Derived.Test.YtfkkhfiiokhnaaxQuietB
import Derived.WalkLawsBesides
import Derived.WalkSpells
import Derived.Deep.DeepCutAuto
namespace Go.Proofs.Ytfkkhfiiokhnaax
open Go.RowKit

theorem more0 {w : World} {g : Nat} {o : Obj} (h : w.heap[g]? = some o) (q : Obj) : (w.alloc q).heap[g]? = some o := (Below.heap_alloc _ _ _ (Array.getElem?_eq_some_iff.1 h).1).trans h
set_option maxRecDepth 100000 in
set_option maxHeartbeats 1000000 in
theorem specBrdBest (v : Value) (l : List Fr) (hl : l.length ≤ 1048576) (w : World) {z : Nat} (h : FrsAt w z v l) :
    Calls Try.prog 13 #[v] w fun e w' => e = .returned (.agg #[.int .i64 (bestF l).s, .int .i64 (bestF l).w, .int .i64 (bestF l).c]) ∧ Below w.heap.size w w' := by
  have hmx : Try.prog.follows .mixedOrders = true := by kernel_rfl
  obtain ⟨a, cap, rfl, hlen⟩ := At.form h
  have HH := Hid.intro h
  have K2 := k_alloc (k_alloc (Below.refl w.heap.size w) (.cells #[.int .i64 0, .int .i64 0, .int .i64 0] 31)) (.cells #[.int .i64 0, .int .i64 0, .int .i64 (-1)] 31)
  have X0 := more0 (newestB w (.cells #[.int .i64 0, .int .i64 0, .int .i64 0] 31)) (.cells #[.int .i64 0, .int .i64 0, .int .i64 (-1)] 31)
  have X1 : ((w.alloc (.cells #[.int .i64 0, .int .i64 0, .int .i64 0] 31)).alloc (.cells #[.int .i64 0, .int .i64 0, .int .i64 (-1)] 31)).heap[w.heap.size + 1]? = some (.cells #[.int .i64 0, .int .i64 0, .int .i64 (-1)] 31) := by
    have := newestB (w.alloc (.cells #[.int .i64 0, .int .i64 0, .int .i64 0] 31)) (.cells #[.int .i64 0, .int .i64 0, .int .i64 (-1)] 31)
    simpa using this
  have HX := Hid.intro (And.intro X0 X1)
  have HK := Hid.intro K2
  have KB := Hid.intro (fun (W : World) (p : BW W) (x y z u : Int) => bw_of ((specBrdBeats x y z u p.u).mono (fun _ _ ⟨h1, h2⟩ => And.intro h1 (by rw [h2]; exact k_alloc (k_alloc (Below.refl _ _) _) _))))
  clear h K2 X0 X1
  go_enter Try.func13, Try.ntmps13
  go_wp2_with fail
  go_loopw [4] (fun s W => ∃ k : Nat, s = .int .i64 k ∧ k ≤ l.length ∧ Hid (W.heap[w.heap.size + 1]? = some (.cells #[.int .i64 (bestTo l k).s, .int .i64 (bestTo l k).w, .int .i64 (bestTo l k).c] 31)) ∧ Hid (W.heap[w.heap.size]? = some (.cells #[.int .i64 0, .int .i64 0, .int .i64 0] 31)) ∧ Hid (Below w.heap.size w W)) (fun s _ => l.length - (intOf s).toNat)
  case atStart => exact ⟨0, rfl, Nat.zero_le _, HX.out.2, HX.out.1, HK⟩
  case round =>
    clear HX HK
    obtain ⟨k, rfl, hk, HX, HZ, HK⟩ := hrel
    by_cases hlt : k < l.length
    case neg =>
      obtain rfl : k = l.length := by omega
      obtain ⟨⟨c0, c1, c2⟩, _⟩ := cells3 HX.out
      obtain ⟨⟨d0, d1, d2⟩, f0, f1, f2⟩ := cells3 HZ.out
      have HBl := Hid.intro (HK.out.trans ((st3_bk wr w.heap.size (.int .i64 (bestTo l l.length).s) (.int .i64 (bestTo l l.length).w) (.int .i64 (bestTo l l.length).c)).below HK.out.size (Nat.le_refl _)))
      have HE : Hid (bestF l = bestTo l l.length) := rfl
      generalize bestTo l l.length = y at *
      go_wp2
      exact bodyPost_ret (v := .agg #[.int .i64 y.s, .int .i64 y.w, .int .i64 y.c]) (by simp [results, Try.results13, go_sem, d0, d1, d2]) rfl ⟨by rw [HE.out], HBl.out⟩
    obtain ⟨b, off, cap', e', hc1, hc2, hbl, x0, x1, x2⟩ := At.get (HH.out.kept HK.out) hlt
    simp only [Value.slice.injEq, true_and] at e'
    obtain ⟨rfl, rfl⟩ := e'
    unfold maxLen at hc2
    have hwz : w.heap.size + 1 < wr.heap.size := (Array.getElem?_eq_some_iff.1 HX.out).1
    have HE0 : Hid (k = 0 → bestTo l (k + 1) = l.getD k dF) := fun h => by subst h; rw [bestTo, if_pos rfl]
    have HEy : Hid (k ≠ 0 → btF (l.getD k dF) (bestTo l k) = true → bestTo l (k + 1) = l.getD k dF) := fun h h2 => by rw [bestTo, if_neg h, if_pos h2]
    have HEn : Hid (k ≠ 0 → btF (l.getD k dF) (bestTo l k) = false → bestTo l (k + 1) = bestTo l k) := fun h h2 => by rw [bestTo, if_neg h, if_neg (by rw [h2]; simp)]
    generalize l.getD k dF = p at x0 x1 x2 HE0 HEy HEn
    generalize bestTo l k = y at HX HEy HEn
    have hne := bw_some wr
    have m0 := bw_cell hbl x0
    have m1 := bw_cell hbl x1
    have m2 := bw_cell (a := ⟨w.heap.size + 1, 0, none⟩) hwz (cellB (p := 0) HX.out)
    have m3 := bw_cell (a := ⟨w.heap.size + 1, 1, none⟩) hwz (cellB (p := 1) HX.out)
    have HPc := Hid.intro (And.intro hbl (And.intro x0 (And.intro x1 x2)))
    have HBt : Hid (btF p y = beatsB p.s p.w y.s y.w) := rfl
    clear x0 x1 x2
    go_upto_region 5 with fail
    refine wp_region_quiet_below hmx (by kernel_rfl) ?_
    by_cases hk0 : k = 0
    case pos =>
      subst hk0
      have HE := Hid.intro (HE0.out rfl)
      repeat (go_big_quiet_step (first | (go_at_call 9; refine KB.out _ _ _ _ _ _)))
      refine wpQuiet_nil ?_
      intro W5 hw'
      obtain ⟨⟨Wx, hW5⟩, hw''⟩ := hw'
      subst hw''
      clear m0 m1 m2 m3 hne
      have HX5 := (hW5.block _ hwz).trans HX.out
      have HZ5 := (hW5.block w.heap.size (by omega)).trans HZ.out
      have HK5 := k_trans HK.out hW5
      have x0 := (hW5.cell (p := ⟨b, _, none⟩) HPc.out.1).trans HPc.out.2.1
      have x1 := (hW5.cell (p := ⟨b, _, none⟩) HPc.out.1).trans HPc.out.2.2.1
      have x2 := (hW5.cell (p := ⟨b, _, none⟩) HPc.out.1).trans HPc.out.2.2.2
      simp only [Nat.zero_mul, Nat.add_zero] at x0 x1 x2
      obtain ⟨⟨c0, c1, c2⟩, f0, f1, f2⟩ := cells3 HX5
      have HX6 := Hid.intro (st3_is HX5 (.int .i64 p.s) (.int .i64 p.w) (.int .i64 p.c))
      have hbk := st3_bk W5 (w.heap.size + 1) (.int .i64 p.s) (.int .i64 p.w) (.int .i64 p.c)
      have HZ6 := Hid.intro ((hbk.block w.heap.size (Array.getElem?_eq_some_iff.1 HZ5).1 (by omega)).trans HZ5)
      have HK6 := Hid.intro (HK5.trans (hbk.below HK5.size (by omega)))
      clear hW5 HX HZ HK HX5 HZ5 HK5 hbk HPc
      go_wp2
      go_roundw
      case rel => exact ⟨0 + 1, by go_num, by omega, by rw [HE.out]; exact HX6, HZ6, HK6⟩
      case measure => simp [intOf]; omega
    case neg =>
      have hkb : (((k : Int)) == 0) = false := beq_eq_false_iff_ne.2 (by omega)
      cases hbt : beatsB p.s p.w y.s y.w with
      | false =>
        have HE := Hid.intro (HEn.out hk0 (HBt.out.trans hbt))
        repeat (go_big_quiet_step (first | (go_at_call 9; refine KB.out _ _ _ _ _ _)))
        refine wpQuiet_nil ?_
        intro W5 hw'
        obtain ⟨⟨Wx, hW5⟩, hw''⟩ := hw'
        subst hw''
        have HX5 := Hid.intro ((hW5.block _ hwz).trans HX.out)
        have HZ5 := Hid.intro ((hW5.block _ (by omega)).trans HZ.out)
        have HK5 := Hid.intro (k_trans HK.out hW5)
        clear m0 m1 m2 m3 hne hW5 HX HZ HK HPc
        go_wp2
        go_roundw
        case rel => exact ⟨k + 1, by go_num, by omega, by rw [HE.out]; exact HX5, HZ5, HK5⟩
        case measure => simp [intOf]; omega
      | true =>
        have HE := Hid.intro (HEy.out hk0 (HBt.out.trans hbt))
        repeat (go_big_quiet_step (first | (go_at_call 9; refine KB.out _ _ _ _ _ _)))
        refine wpQuiet_nil ?_
        intro W5 hw'
        obtain ⟨⟨Wx, hW5⟩, hw''⟩ := hw'
        subst hw''
        clear m0 m1 m2 m3 hne
        have HX5 := (hW5.block _ hwz).trans HX.out
        have HZ5 := (hW5.block w.heap.size (by omega)).trans HZ.out
        have HK5 := k_trans HK.out hW5
        have x0 := (hW5.cell (p := ⟨b, _, none⟩) HPc.out.1).trans HPc.out.2.1
        have x1 := (hW5.cell (p := ⟨b, _, none⟩) HPc.out.1).trans HPc.out.2.2.1
        have x2 := (hW5.cell (p := ⟨b, _, none⟩) HPc.out.1).trans HPc.out.2.2.2
        obtain ⟨⟨c0, c1, c2⟩, f0, f1, f2⟩ := cells3 HX5
        have HX6 := Hid.intro (st3_is HX5 (.int .i64 p.s) (.int .i64 p.w) (.int .i64 p.c))
        have hbk := st3_bk W5 (w.heap.size + 1) (.int .i64 p.s) (.int .i64 p.w) (.int .i64 p.c)
        have HZ6 := Hid.intro ((hbk.block w.heap.size (Array.getElem?_eq_some_iff.1 HZ5).1 (by omega)).trans HZ5)
        have HK6 := Hid.intro (HK5.trans (hbk.below HK5.size (by omega)))
        clear hW5 HX HZ HK HX5 HZ5 HK5 hbk HPc
        go_wp2
        go_roundw
        case rel => exact ⟨k + 1, by go_num, by omega, by rw [HE.out]; exact HX6, HZ6, HK6⟩
        case measure => simp [intOf]; omega
end Go.Proofs.Ytfkkhfiiokhnaax
