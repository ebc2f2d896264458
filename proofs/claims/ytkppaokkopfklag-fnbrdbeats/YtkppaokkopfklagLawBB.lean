/-
  PROVED HERE: the law FnBrdBeats returns true at every two codes that lie in memory.
-/
import Derived.Test.YtkppaokkopfklagDrawBB
import Derived.Test.YtkppaokkopfklagBtI
import Derived.Test.YtkppaokkopfklagBtS
import Derived.Test.YtkppaokkopfklagBrdS
import Derived.Test.YtkppaokkopfklagQuietB
import Derived.Deep.DeepCutAuto
import Derived.Deep.RegionWith
namespace Go.Proofs.Ytkppaokkopfklag
open Go.RowKit

/-- three borders in their boxes all along the law -/
structure Bx (w : World) (tb ub : Nat) (a b c d e f : Int) (W : World) : Prop where
  bel : Below w.heap.size w W
  y0 : W.heap[tb]? = some (.cells #[.int .i64 a, .int .i64 b] 34)
  y1 : W.heap[tb + 1]? = some (.cells #[.int .i64 c, .int .i64 d] 34)
  y2 : W.heap[ub]? = some (.cells #[.int .i64 e, .int .i64 f] 34)
theorem Bx.kept {w W W' : World} {tb ub : Nat} {a b c d e f : Int} (h : Bx w tb ub a b c d e f W) (k : Below W.heap.size W W') : Bx w tb ub a b c d e f W' :=
  ⟨k_trans h.bel k, (k.block _ (Array.getElem?_eq_some_iff.1 h.y0).1).trans h.y0, (k.block _ (Array.getElem?_eq_some_iff.1 h.y1).1).trans h.y1, (k.block _ (Array.getElem?_eq_some_iff.1 h.y2).1).trans h.y2⟩
theorem Bx.at {w W : World} {tb ub : Nat} {a b c d e f : Int} (h : Bx w tb ub a b c d e f W) : W.cell? ⟨tb, 0, none⟩ = some (.int .i64 a) ∧ W.cell? ⟨tb, 1, none⟩ = some (.int .i64 b) ∧ W.cell? ⟨tb + 1, 0, none⟩ = some (.int .i64 c) ∧ W.cell? ⟨tb + 1, 1, none⟩ = some (.int .i64 d) ∧ W.cell? ⟨ub, 0, none⟩ = some (.int .i64 e) ∧ W.cell? ⟨ub, 1, none⟩ = some (.int .i64 f) :=
  ⟨cellB h.y0, cellB h.y0, cellB h.y1, cellB h.y1, cellB h.y2, cellB h.y2⟩
theorem specOkK (a b : Int) (w : World) : Calls Try.prog 17 #[.agg #[.int .i64 a, .int .i64 b]] w fun e w' => e = .returned (.bool (brdOkB a b)) ∧ Below w.heap.size w w' := (specBrdOk a b w).mono (fun _ _ ⟨h1, h2⟩ => ⟨h1, by rw [h2]; exact k_alloc (Below.refl _ _) _⟩)
theorem two_ok {a b c d : Int} (h1 : brdOkB a b = true) (h2 : brdOkB c d = true) (h3 : beatsB a b c d = false) (h4 : beatsB c d a b = false) : a = c ∧ b = d := by
  rw [Bool.eq_false_iff, ne_eq, beats_iff] at h3 h4
  simp only [brdOkB, decide_eq_true_eq] at h1 h2
  omega
set_option maxRecDepth 100000 in
set_option maxHeartbeats 2000000 in
theorem lawBB_walk (A : Option Addr) (len cap : Nat) (A2 : Option Addr) (len2 cap2 : Nat) (hlen : len ≤ 1048576) (hlen2 : len2 ≤ 1048576) (w : World) (h : IsCode w A len cap) (h2 : IsCode w A2 len2 cap2) :
    Calls Try.prog 4 #[.slice A len cap, .slice A2 len2 cap2] w fun e w' => e = .returned (.bool true) ∧ Below w.heap.size w w' := by
  have hl : ¬ (1048576 : Int) < (len : Int) := by omega
  have hl2 : ¬ (1048576 : Int) < (len2 : Int) := by omega
  have hmx : Try.prog.follows .mixedOrders = true := by kernel_rfl
  have HD := Hid.intro h
  have HD2 := Hid.intro h2
  clear h h2
  go_enter Try.func4, Try.ntmps4
  go_wp2_with fail
  refine (drawBrdBeats_any _ _ _ _ HD.out).mono ?_
  rintro e w1 ⟨a, b, c, d, rfl, hb1⟩
  go_upto_region 4 with fail
  have HB1 := Hid.intro hb1
  have HD2' := Hid.intro (HD2.out.kept2 (k_alloc (k_alloc hb1 (.cells #[.int .i64 a, .int .i64 b] 34)) (.cells #[.int .i64 c, .int .i64 d] 34)))
  have HX := Hid.intro (And.intro (more (newest w1 (.cells #[.int .i64 a, .int .i64 b] 34)) (.cells #[.int .i64 c, .int .i64 d] 34)) (newest1 w1 (.cells #[.int .i64 a, .int .i64 b] 34) (.cells #[.int .i64 c, .int .i64 d] 34)))
  have HK2 := Hid.intro (k_alloc (k_alloc hb1 (.cells #[.int .i64 a, .int .i64 b] 34)) (.cells #[.int .i64 c, .int .i64 d] 34))
  generalize (w1.alloc (.cells #[.int .i64 a, .int .i64 b] 34)).alloc (.cells #[.int .i64 c, .int .i64 d] 34) = W1 at HD2' HX HK2 ⊢
  generalize w1.heap.size = tb at HX ⊢
  clear hb1 HD HD2 HB1
  go_wp2_with fail
  refine (drawBrdBeats_any _ _ _ _ HD2'.out).mono ?_
  rintro e w2 ⟨e1, f1, e2, f2, rfl, hb2⟩
  have HZ := Hid.intro (newest w2 (.cells #[.int .i64 e1, .int .i64 f1] 34))
  have l0 := (Array.getElem?_eq_some_iff.1 HX.out.1).1
  have l1 := (Array.getElem?_eq_some_iff.1 HX.out.2).1
  have HK3 := Hid.intro (k_alloc (k_alloc (k_trans HK2.out hb2) (.cells #[.int .i64 e1, .int .i64 f1] 34)) (.cells #[.int .i64 e2, .int .i64 f2] 34))
  have HY := Hid.intro (And.intro (more (more ((hb2.block _ l0).trans HX.out.1) (.cells #[.int .i64 e1, .int .i64 f1] 34)) (.cells #[.int .i64 e2, .int .i64 f2] 34)) (And.intro (more (more ((hb2.block _ l1).trans HX.out.2) (.cells #[.int .i64 e1, .int .i64 f1] 34)) (.cells #[.int .i64 e2, .int .i64 f2] 34)) (more HZ.out (.cells #[.int .i64 e2, .int .i64 f2] 34))))
  clear hb2 HX HK2 l0 l1 HZ HD2'
  go_upto_region 5 with fail
  generalize (w2.alloc (.cells #[.int .i64 e1, .int .i64 f1] 34)).alloc (.cells #[.int .i64 e2, .int .i64 f2] 34) = W3 at HK3 HY ⊢
  generalize w2.heap.size = ub at HY ⊢
  obtain ⟨Y0, Y1, Y2⟩ := HY.out
  have l0 := (Array.getElem?_eq_some_iff.1 Y0).1
  have l1 := (Array.getElem?_eq_some_iff.1 Y1).1
  have l2 := (Array.getElem?_eq_some_iff.1 Y2).1
  have KI := Hid.intro (fun (W : World) (p : BW W) (x y z u : Int) => bw_of (implBrdBeats x y z u p.u))
  have KS := Hid.intro (fun (W : World) (p : BW W) (x y z u : Int) => bw_of ((specBrdBeats x y z u p.u).mono (fun _ _ ⟨h1, h2⟩ => And.intro h1 (by rw [h2]; exact k_alloc (k_alloc (Below.refl _ _) _) _))))
  have hs := beats_self a b
  have hne := bw_some W3
  have m0 := bw_cell (a := ⟨tb, 0, none⟩) l0 (cellB (p := 0) Y0)
  have m1 := bw_cell (a := ⟨tb, 1, none⟩) l0 (cellB (p := 1) Y0)
  have m2 := bw_cell (a := ⟨tb + 1, 0, none⟩) l1 (cellB (p := 0) Y1)
  have m3 := bw_cell (a := ⟨tb + 1, 1, none⟩) l1 (cellB (p := 1) Y1)
  clear Y0 Y1 Y2
  generalize hy1 : beatsB a b c d = y1
  generalize hy2 : beatsB c d a b = y2
  refine wp_region_quiet_below hmx (by kernel_rfl) ?_
  have h433 : beatsB 4 0 3 3 = true := by decide
  cases y1 with
  | false =>
    cases y2 with
    | false =>
      repeat (go_big_quiet_step (first | (go_at_call 15; refine KI.out _ _ _ _ _ _) | (go_at_call 16; refine KS.out _ _ _ _ _ _)))
      refine wpQuiet_nil ?_
      intro W4 hw'
      obtain ⟨⟨Wx, hW4⟩, hw''⟩ := hw'
      subst hw''
      have HX := Hid.intro (Bx.mk HK3.out HY.out.1 HY.out.2.1 HY.out.2.2 |>.kept hW4)
      clear m0 m1 m2 m3 hW4 hne l0 l1 l2 HK3 HY KI KS hs
      obtain ⟨m0, m1, m2, m3, m4, m5⟩ := HX.out.at
      go_upto_region 9 with (first
              | (go_at_call 15; refine (implBrdBeats _ _ _ _ _).mono ?_; rintro e W5 ⟨rfl, hb5⟩; replace HX := Hid.intro (HX.out.kept hb5); clear hb5 m0 m1 m2 m3 m4 m5; obtain ⟨m0, m1, m2, m3, m4, m5⟩ := HX.out.at)
              | (go_at_call 17; refine (specOkK _ _ _).mono ?_; rintro e W5 ⟨rfl, hb5⟩; replace HX := Hid.intro (HX.out.kept hb5); clear hb5 m0 m1 m2 m3 m4 m5; obtain ⟨m0, m1, m2, m3, m4, m5⟩ := HX.out.at))
      cases hk1 : brdOkB a b with
      | false =>
        go_wp2_with (first
                | (go_at_call 15; refine (implBrdBeats _ _ _ _ _).mono ?_; rintro e W5 ⟨rfl, hb5⟩; replace HX := Hid.intro (HX.out.kept hb5); clear hb5 m0 m1 m2 m3 m4 m5; obtain ⟨m0, m1, m2, m3, m4, m5⟩ := HX.out.at)
                | (go_at_call 17; refine (specOkK _ _ _).mono ?_; rintro e W5 ⟨rfl, hb5⟩; replace HX := Hid.intro (HX.out.kept hb5); clear hb5 m0 m1 m2 m3 m4 m5; obtain ⟨m0, m1, m2, m3, m4, m5⟩ := HX.out.at))
        go_ret
        exact ⟨retB h433, HX.out.bel⟩
      | true =>
        cases hk2 : brdOkB c d with
        | false =>
          go_wp2_with (first
                  | (go_at_call 15; refine (implBrdBeats _ _ _ _ _).mono ?_; rintro e W5 ⟨rfl, hb5⟩; replace HX := Hid.intro (HX.out.kept hb5); clear hb5 m0 m1 m2 m3 m4 m5; obtain ⟨m0, m1, m2, m3, m4, m5⟩ := HX.out.at)
                  | (go_at_call 17; refine (specOkK _ _ _).mono ?_; rintro e W5 ⟨rfl, hb5⟩; replace HX := Hid.intro (HX.out.kept hb5); clear hb5 m0 m1 m2 m3 m4 m5; obtain ⟨m0, m1, m2, m3, m4, m5⟩ := HX.out.at))
          go_ret
          exact ⟨retB h433, HX.out.bel⟩
        | true =>
          obtain ⟨rfl, rfl⟩ := two_ok hk1 hk2 hy1 hy2
          go_wp2_with (first
                  | (go_at_call 15; refine (implBrdBeats _ _ _ _ _).mono ?_; rintro e W5 ⟨rfl, hb5⟩; replace HX := Hid.intro (HX.out.kept hb5); clear hb5 m0 m1 m2 m3 m4 m5; obtain ⟨m0, m1, m2, m3, m4, m5⟩ := HX.out.at)
                  | (go_at_call 17; refine (specOkK _ _ _).mono ?_; rintro e W5 ⟨rfl, hb5⟩; replace HX := Hid.intro (HX.out.kept hb5); clear hb5 m0 m1 m2 m3 m4 m5; obtain ⟨m0, m1, m2, m3, m4, m5⟩ := HX.out.at))
          go_ret
          exact ⟨retB h433, HX.out.bel⟩
    | true =>
      repeat (go_big_quiet_step (first | (go_at_call 15; refine KI.out _ _ _ _ _ _) | (go_at_call 16; refine KS.out _ _ _ _ _ _)))
      refine wpQuiet_nil ?_
      intro W4 hw'
      obtain ⟨⟨Wx, hW4⟩, hw''⟩ := hw'
      subst hw''
      have HX := Hid.intro (Bx.mk HK3.out HY.out.1 HY.out.2.1 HY.out.2.2 |>.kept hW4)
      clear m0 m1 m2 m3 hW4 hne l0 l1 l2 HK3 HY KI KS hs
      obtain ⟨m0, m1, m2, m3, m4, m5⟩ := HX.out.at
      go_upto_region 9 with (first
              | (go_at_call 15; refine (implBrdBeats _ _ _ _ _).mono ?_; rintro e W5 ⟨rfl, hb5⟩; replace HX := Hid.intro (HX.out.kept hb5); clear hb5 m0 m1 m2 m3 m4 m5; obtain ⟨m0, m1, m2, m3, m4, m5⟩ := HX.out.at)
              | (go_at_call 17; refine (specOkK _ _ _).mono ?_; rintro e W5 ⟨rfl, hb5⟩; replace HX := Hid.intro (HX.out.kept hb5); clear hb5 m0 m1 m2 m3 m4 m5; obtain ⟨m0, m1, m2, m3, m4, m5⟩ := HX.out.at))
      cases hk1 : brdOkB a b with
      | false =>
        go_wp2_with (first
                | (go_at_call 15; refine (implBrdBeats _ _ _ _ _).mono ?_; rintro e W5 ⟨rfl, hb5⟩; replace HX := Hid.intro (HX.out.kept hb5); clear hb5 m0 m1 m2 m3 m4 m5; obtain ⟨m0, m1, m2, m3, m4, m5⟩ := HX.out.at)
                | (go_at_call 17; refine (specOkK _ _ _).mono ?_; rintro e W5 ⟨rfl, hb5⟩; replace HX := Hid.intro (HX.out.kept hb5); clear hb5 m0 m1 m2 m3 m4 m5; obtain ⟨m0, m1, m2, m3, m4, m5⟩ := HX.out.at))
        go_ret
        exact ⟨retB h433, HX.out.bel⟩
      | true =>
        cases hk2 : brdOkB c d with
        | false =>
          go_wp2_with (first
                  | (go_at_call 15; refine (implBrdBeats _ _ _ _ _).mono ?_; rintro e W5 ⟨rfl, hb5⟩; replace HX := Hid.intro (HX.out.kept hb5); clear hb5 m0 m1 m2 m3 m4 m5; obtain ⟨m0, m1, m2, m3, m4, m5⟩ := HX.out.at)
                  | (go_at_call 17; refine (specOkK _ _ _).mono ?_; rintro e W5 ⟨rfl, hb5⟩; replace HX := Hid.intro (HX.out.kept hb5); clear hb5 m0 m1 m2 m3 m4 m5; obtain ⟨m0, m1, m2, m3, m4, m5⟩ := HX.out.at))
          go_ret
          exact ⟨retB h433, HX.out.bel⟩
        | true =>
          by_cases hac : a = c
          · by_cases hbd : b = d
            · exfalso
              subst hac
              subst hbd
              have := beats_self a b
              simp_all
            · subst hac
              go_wp2_with (first
                      | (go_at_call 15; refine (implBrdBeats _ _ _ _ _).mono ?_; rintro e W5 ⟨rfl, hb5⟩; replace HX := Hid.intro (HX.out.kept hb5); clear hb5 m0 m1 m2 m3 m4 m5; obtain ⟨m0, m1, m2, m3, m4, m5⟩ := HX.out.at)
                      | (go_at_call 17; refine (specOkK _ _ _).mono ?_; rintro e W5 ⟨rfl, hb5⟩; replace HX := Hid.intro (HX.out.kept hb5); clear hb5 m0 m1 m2 m3 m4 m5; obtain ⟨m0, m1, m2, m3, m4, m5⟩ := HX.out.at))
              go_ret
              exact ⟨retB h433, HX.out.bel⟩
          · skip
            go_wp2_with (first
                    | (go_at_call 15; refine (implBrdBeats _ _ _ _ _).mono ?_; rintro e W5 ⟨rfl, hb5⟩; replace HX := Hid.intro (HX.out.kept hb5); clear hb5 m0 m1 m2 m3 m4 m5; obtain ⟨m0, m1, m2, m3, m4, m5⟩ := HX.out.at)
                    | (go_at_call 17; refine (specOkK _ _ _).mono ?_; rintro e W5 ⟨rfl, hb5⟩; replace HX := Hid.intro (HX.out.kept hb5); clear hb5 m0 m1 m2 m3 m4 m5; obtain ⟨m0, m1, m2, m3, m4, m5⟩ := HX.out.at))
            go_ret
            exact ⟨retB h433, HX.out.bel⟩
  | true =>
    cases y2 with
    | false =>
      repeat (go_big_quiet_step (first | (go_at_call 15; refine KI.out _ _ _ _ _ _) | (go_at_call 16; refine KS.out _ _ _ _ _ _)))
      refine wpQuiet_nil ?_
      intro W4 hw'
      obtain ⟨⟨Wx, hW4⟩, hw''⟩ := hw'
      subst hw''
      have HX := Hid.intro (Bx.mk HK3.out HY.out.1 HY.out.2.1 HY.out.2.2 |>.kept hW4)
      clear m0 m1 m2 m3 hW4 hne l0 l1 l2 HK3 HY KI KS hs
      obtain ⟨m0, m1, m2, m3, m4, m5⟩ := HX.out.at
      cases hy3 : beatsB c d e1 f1 with
      | false =>
        go_upto_region 9 with (first
                | (go_at_call 15; refine (implBrdBeats _ _ _ _ _).mono ?_; rintro e W5 ⟨rfl, hb5⟩; replace HX := Hid.intro (HX.out.kept hb5); clear hb5 m0 m1 m2 m3 m4 m5; obtain ⟨m0, m1, m2, m3, m4, m5⟩ := HX.out.at)
                | (go_at_call 17; refine (specOkK _ _ _).mono ?_; rintro e W5 ⟨rfl, hb5⟩; replace HX := Hid.intro (HX.out.kept hb5); clear hb5 m0 m1 m2 m3 m4 m5; obtain ⟨m0, m1, m2, m3, m4, m5⟩ := HX.out.at))
        cases hk1 : brdOkB a b with
        | false =>
          go_wp2_with (first
                  | (go_at_call 15; refine (implBrdBeats _ _ _ _ _).mono ?_; rintro e W5 ⟨rfl, hb5⟩; replace HX := Hid.intro (HX.out.kept hb5); clear hb5 m0 m1 m2 m3 m4 m5; obtain ⟨m0, m1, m2, m3, m4, m5⟩ := HX.out.at)
                  | (go_at_call 17; refine (specOkK _ _ _).mono ?_; rintro e W5 ⟨rfl, hb5⟩; replace HX := Hid.intro (HX.out.kept hb5); clear hb5 m0 m1 m2 m3 m4 m5; obtain ⟨m0, m1, m2, m3, m4, m5⟩ := HX.out.at))
          go_ret
          exact ⟨retB h433, HX.out.bel⟩
        | true =>
          cases hk2 : brdOkB c d with
          | false =>
            go_wp2_with (first
                    | (go_at_call 15; refine (implBrdBeats _ _ _ _ _).mono ?_; rintro e W5 ⟨rfl, hb5⟩; replace HX := Hid.intro (HX.out.kept hb5); clear hb5 m0 m1 m2 m3 m4 m5; obtain ⟨m0, m1, m2, m3, m4, m5⟩ := HX.out.at)
                    | (go_at_call 17; refine (specOkK _ _ _).mono ?_; rintro e W5 ⟨rfl, hb5⟩; replace HX := Hid.intro (HX.out.kept hb5); clear hb5 m0 m1 m2 m3 m4 m5; obtain ⟨m0, m1, m2, m3, m4, m5⟩ := HX.out.at))
            go_ret
            exact ⟨retB h433, HX.out.bel⟩
          | true =>
            by_cases hac : a = c
            · by_cases hbd : b = d
              · exfalso
                subst hac
                subst hbd
                have := beats_self a b
                simp_all
              · subst hac
                go_wp2_with (first
                        | (go_at_call 15; refine (implBrdBeats _ _ _ _ _).mono ?_; rintro e W5 ⟨rfl, hb5⟩; replace HX := Hid.intro (HX.out.kept hb5); clear hb5 m0 m1 m2 m3 m4 m5; obtain ⟨m0, m1, m2, m3, m4, m5⟩ := HX.out.at)
                        | (go_at_call 17; refine (specOkK _ _ _).mono ?_; rintro e W5 ⟨rfl, hb5⟩; replace HX := Hid.intro (HX.out.kept hb5); clear hb5 m0 m1 m2 m3 m4 m5; obtain ⟨m0, m1, m2, m3, m4, m5⟩ := HX.out.at))
                go_ret
                exact ⟨retB h433, HX.out.bel⟩
            · skip
              go_wp2_with (first
                      | (go_at_call 15; refine (implBrdBeats _ _ _ _ _).mono ?_; rintro e W5 ⟨rfl, hb5⟩; replace HX := Hid.intro (HX.out.kept hb5); clear hb5 m0 m1 m2 m3 m4 m5; obtain ⟨m0, m1, m2, m3, m4, m5⟩ := HX.out.at)
                      | (go_at_call 17; refine (specOkK _ _ _).mono ?_; rintro e W5 ⟨rfl, hb5⟩; replace HX := Hid.intro (HX.out.kept hb5); clear hb5 m0 m1 m2 m3 m4 m5; obtain ⟨m0, m1, m2, m3, m4, m5⟩ := HX.out.at))
              go_ret
              exact ⟨retB h433, HX.out.bel⟩
      | true =>
        have hy4 := beats_trans hy1 hy3
        go_upto_region 9 with (first
                | (go_at_call 15; refine (implBrdBeats _ _ _ _ _).mono ?_; rintro e W5 ⟨rfl, hb5⟩; replace HX := Hid.intro (HX.out.kept hb5); clear hb5 m0 m1 m2 m3 m4 m5; obtain ⟨m0, m1, m2, m3, m4, m5⟩ := HX.out.at)
                | (go_at_call 17; refine (specOkK _ _ _).mono ?_; rintro e W5 ⟨rfl, hb5⟩; replace HX := Hid.intro (HX.out.kept hb5); clear hb5 m0 m1 m2 m3 m4 m5; obtain ⟨m0, m1, m2, m3, m4, m5⟩ := HX.out.at))
        cases hk1 : brdOkB a b with
        | false =>
          go_wp2_with (first
                  | (go_at_call 15; refine (implBrdBeats _ _ _ _ _).mono ?_; rintro e W5 ⟨rfl, hb5⟩; replace HX := Hid.intro (HX.out.kept hb5); clear hb5 m0 m1 m2 m3 m4 m5; obtain ⟨m0, m1, m2, m3, m4, m5⟩ := HX.out.at)
                  | (go_at_call 17; refine (specOkK _ _ _).mono ?_; rintro e W5 ⟨rfl, hb5⟩; replace HX := Hid.intro (HX.out.kept hb5); clear hb5 m0 m1 m2 m3 m4 m5; obtain ⟨m0, m1, m2, m3, m4, m5⟩ := HX.out.at))
          go_ret
          exact ⟨retB h433, HX.out.bel⟩
        | true =>
          cases hk2 : brdOkB c d with
          | false =>
            go_wp2_with (first
                    | (go_at_call 15; refine (implBrdBeats _ _ _ _ _).mono ?_; rintro e W5 ⟨rfl, hb5⟩; replace HX := Hid.intro (HX.out.kept hb5); clear hb5 m0 m1 m2 m3 m4 m5; obtain ⟨m0, m1, m2, m3, m4, m5⟩ := HX.out.at)
                    | (go_at_call 17; refine (specOkK _ _ _).mono ?_; rintro e W5 ⟨rfl, hb5⟩; replace HX := Hid.intro (HX.out.kept hb5); clear hb5 m0 m1 m2 m3 m4 m5; obtain ⟨m0, m1, m2, m3, m4, m5⟩ := HX.out.at))
            go_ret
            exact ⟨retB h433, HX.out.bel⟩
          | true =>
            by_cases hac : a = c
            · by_cases hbd : b = d
              · exfalso
                subst hac
                subst hbd
                have := beats_self a b
                simp_all
              · subst hac
                go_wp2_with (first
                        | (go_at_call 15; refine (implBrdBeats _ _ _ _ _).mono ?_; rintro e W5 ⟨rfl, hb5⟩; replace HX := Hid.intro (HX.out.kept hb5); clear hb5 m0 m1 m2 m3 m4 m5; obtain ⟨m0, m1, m2, m3, m4, m5⟩ := HX.out.at)
                        | (go_at_call 17; refine (specOkK _ _ _).mono ?_; rintro e W5 ⟨rfl, hb5⟩; replace HX := Hid.intro (HX.out.kept hb5); clear hb5 m0 m1 m2 m3 m4 m5; obtain ⟨m0, m1, m2, m3, m4, m5⟩ := HX.out.at))
                go_ret
                exact ⟨retB h433, HX.out.bel⟩
            · skip
              go_wp2_with (first
                      | (go_at_call 15; refine (implBrdBeats _ _ _ _ _).mono ?_; rintro e W5 ⟨rfl, hb5⟩; replace HX := Hid.intro (HX.out.kept hb5); clear hb5 m0 m1 m2 m3 m4 m5; obtain ⟨m0, m1, m2, m3, m4, m5⟩ := HX.out.at)
                      | (go_at_call 17; refine (specOkK _ _ _).mono ?_; rintro e W5 ⟨rfl, hb5⟩; replace HX := Hid.intro (HX.out.kept hb5); clear hb5 m0 m1 m2 m3 m4 m5; obtain ⟨m0, m1, m2, m3, m4, m5⟩ := HX.out.at))
              go_ret
              exact ⟨retB h433, HX.out.bel⟩
    | true =>
      exact absurd hy2 (by rw [beats_not _ _ _ _ hy1]; simp)

set_option maxRecDepth 100000 in
theorem lawBrdBeats (A : Option Addr) (len cap : Nat) (A2 : Option Addr) (len2 cap2 : Nat) (w : World) (h : IsCode w A len cap) (h2 : IsCode w A2 len2 cap2) :
    Calls Try.prog 4 #[.slice A len cap, .slice A2 len2 cap2] w fun e w' => e = .returned (.bool true) ∧ Below w.heap.size w w' := by
  have hlen : len ≤ maxLen := Nat.le_trans h.1 h.2.1
  have hlen2 : len2 ≤ maxLen := Nat.le_trans h2.1 h2.2.1
  unfold maxLen at hlen hlen2
  by_cases hbig : len ≤ 1048576
  · by_cases hbig2 : len2 ≤ 1048576
    · exact lawBB_walk A len cap A2 len2 cap2 hbig hbig2 w h h2
    · clear h h2
      have hb : ¬ (1048576 : Int) < (len : Int) := by omega
      have hb2 : (1048576 : Int) < (len2 : Int) := by omega
      go_enter Try.func4, Try.ntmps4
      go_wp2
      go_ret
      exact ⟨rfl, Below.refl _ _⟩
  · clear h h2
    have hb : (1048576 : Int) < (len : Int) := by omega
    go_enter Try.func4, Try.ntmps4
    go_wp2
    go_ret
    exact ⟨rfl, Below.refl _ _⟩
end Go.Proofs.Ytkppaokkopfklag
