/-
  PROVED HERE: the law FnCellOk returns true at every code that lies in memory.
-/
import Derived.Test.YtfkfgmfahoeaoalDrawCell
import Derived.Test.YtfkfgmfahoeaoalCell
import Derived.Test.YtfkfgmfahoeaoalQuietB
import Derived.Deep.DeepCutAuto
import Derived.Deep.RegionWith
namespace Go.Proofs.Ytfkfgmfahoeaoal
open Go.RowKit Go.BigFrame

theorem IsCode.kept {w w' : World} {a : Option Addr} {len cap : Nat} (h : IsCode w a len cap) (hb : Below w.heap.size w w') : IsCode w' a len cap := by
  obtain ⟨h1, h2, hc⟩ := h
  refine ⟨h1, h2, fun i hi => ?_⟩
  obtain ⟨b, off, z, e, l, c, z0, z1⟩ := hc i hi
  exact ⟨b, off, z, e, Nat.lt_of_lt_of_le l hb.size, (hb.cell (p := ⟨b, off + i, none⟩) l).trans c, z0, z1⟩

set_option maxRecDepth 100000 in
set_option maxHeartbeats 1000000 in
theorem drawCellOk_any (a : Option Addr) (len cap : Nat) (w : World) (h : IsCode w a len cap) :
    Calls Try.prog 10 #[.slice a len cap] w fun e w' => ∃ x : C, e = .returned (.agg #[.string x.s, .int .i64 x.c, .int .i64 x.r, .int .i64 x.a1, .int .i64 x.b1, .int .i64 x.a2, .int .i64 x.b2, .int .i64 x.a3, .int .i64 x.b3, .int .i64 x.a4, .int .i64 x.b4]) ∧ x.s.size ≤ 61 ∧ Below w.heap.size w w' := by
  have K0 := k_alloc (Below.refl w.heap.size w) (.cells zeroC 29)
  have HC := Hid.intro (h.kept K0)
  have X0 : (w.alloc (.cells zeroC 29)).heap[w.heap.size]? = some (.cells zeroC 29) := newestB w _
  clear h
  have hsz : (w.alloc (.cells zeroC 29)).heap.size = w.heap.size + 1 := by simp
  go_enter Try.func10, Try.ntmps10
  go_wp2_with fail
  refine (open_any _ _ _ _ HC.out).mono ?_
  rintro e w1 ⟨rfl, hR1, hb1⟩
  have hR1' : Rd w1 (w.heap.size + 1) 0 := by rw [← hsz]; exact hR1
  have hb1' : Below (w.alloc (.cells zeroC 29)).heap.size (w.alloc (.cells zeroC 29)) w1 := hb1
  have X1 := (hb1'.block w.heap.size (by omega)).trans X0
  have K1 := k_trans K0 hb1'
  have hz1 := hR1'.lt
  clear hR1 hb1
  go_wp2_with fail
  refine (l20Cell_any (w.heap.size + 1) 0 2 (by omega) _ (by simpa using hR1') (by omega)).mono ?_
  rintro e w2 ⟨x, rfl, hx, _, hR2, hb2⟩
  have X2 := (hb2.block w.heap.size (by omega) (by omega)).trans X1
  have k11 := st11_bk w2 w.heap.size (.string x.s) (.int .i64 x.c) (.int .i64 x.r) (.int .i64 x.a1) (.int .i64 x.b1) (.int .i64 x.a2) (.int .i64 x.b2) (.int .i64 x.a3) (.int .i64 x.b3) (.int .i64 x.a4) (.int .i64 x.b4)
  have hz2 := hb2.size
  have K3 := Hid.intro ((K1.trans (hb2.below (by omega) (by omega))).trans (k11.below (by omega) (Nat.le_refl _)))
  obtain ⟨⟨p0, p1, p2, p3, p4, p5, p6, p7, p8, p9, p10⟩, ⟨i0, i1, i2, i3, i4, i5, i6, i7, i8, i9, i10⟩⟩ := cells11 X2
  clear hR2 hb2 k11 X2 X1 X0 K0 K1 HC hR1' hb1'
  go_wp2
  exact bodyPost_ret (v := .agg #[.string x.s, .int .i64 x.c, .int .i64 x.r, .int .i64 x.a1, .int .i64 x.b1, .int .i64 x.a2, .int .i64 x.b2, .int .i64 x.a3, .int .i64 x.b3, .int .i64 x.a4, .int .i64 x.b4]) (by simp [results, Try.results10, go_sem, p0, p1, p2, p3, p4, p5, p6, p7, p8, p9, p10]) rfl ⟨x, rfl, hx, K3.out⟩

/-- what the law reckons first, and then -/
def ok1B (x : C) : Bool := txtOkB x.s && (inB x.c 1 4 && inB x.r 1 4)
theorem ok2_eq (x : C) : (ok1B x && (brdOkB x.a1 x.b1 && (brdOkB x.a2 x.b2 && (brdOkB x.a3 x.b3 && brdOkB x.a4 x.b4)))) = cellOkB x.s x.c x.r x.a1 x.b1 x.a2 x.b2 x.a3 x.b3 x.a4 x.b4 := by
  simp only [ok1B, cellOkB, Bool.and_assoc]
theorem vB {a b : Bool} (h : a = b) : Value.bool a = .bool b := by rw [h]
theorem one_ok : cellOkB ⟨#[]⟩ 1 1 0 0 0 0 0 0 0 0 = true := by decide +kernel

set_option maxRecDepth 100000 in
set_option maxHeartbeats 2000000 in
theorem lawCellOk_walk (A : Option Addr) (len cap : Nat) (hlen : len ≤ 1048576) (w : World) (h : IsCode w A len cap) :
    Calls Try.prog 4 #[.slice A len cap] w fun e w' => e = .returned (.bool true) ∧ Below w.heap.size w w' := by
  have hl : ¬ (1048576 : Int) < (len : Int) := by omega
  have hmx : Try.prog.follows .mixedOrders = true := by kernel_rfl
  have HD := Hid.intro h
  clear h
  go_enter Try.func4, Try.ntmps4
  go_upto_region 4 with (go_at_call 10; refine (drawCellOk_any _ _ _ _ HD.out).mono ?_; rintro e w1 ⟨x, rfl, hx, hb1⟩)
  have hxm : x.s.size ≤ maxLen := by unfold maxLen; omega
  have HB1 := Hid.intro (hb1.alloc hb1.size (.cells #[.string x.s, .int .i64 x.c, .int .i64 x.r, .int .i64 x.a1, .int .i64 x.b1, .int .i64 x.a2, .int .i64 x.b2, .int .i64 x.a3, .int .i64 x.b3, .int .i64 x.a4, .int .i64 x.b4] 29))
  have HX1 := newestB w1 (.cells #[.string x.s, .int .i64 x.c, .int .i64 x.r, .int .i64 x.a1, .int .i64 x.b1, .int .i64 x.a2, .int .i64 x.b2, .int .i64 x.a3, .int .i64 x.b3, .int .i64 x.a4, .int .i64 x.b4] 29)
  obtain ⟨W1, hW1⟩ : ∃ W1, w1.alloc (.cells #[.string x.s, .int .i64 x.c, .int .i64 x.r, .int .i64 x.a1, .int .i64 x.b1, .int .i64 x.a2, .int .i64 x.b2, .int .i64 x.a3, .int .i64 x.b3, .int .i64 x.a4, .int .i64 x.b4] 29) = W1 := ⟨_, rfl⟩
  rw [hW1] at HB1 HX1 ⊢
  clear hW1 hb1 HD
  obtain ⟨⟨z0, z1, z2, z3, z4, z5, z6, z7, z8, z9, z10⟩, _⟩ := cells11 HX1
  go_cut [4] (fun s W => s = .bool (ok1B x) ∧ W = W1)
  case first =>
    have KT := Hid.intro (implTxtOk x.s W1 hxm)
    cases h0 : txtOkB x.s with
    | false =>
      have HS : Hid (ok1B x = false) := Hid.intro (by simp [ok1B, h0])
      rw [h0] at KT
      go_wp2_with (go_at_call 8; refine KT.out.mono ?_; rintro e w2 ⟨rfl, rfl⟩)
      go_meet
      case rel => exact ⟨vB HS.out.symm, rfl⟩
    | true =>
      rw [h0] at KT
      by_cases h1 : 1 ≤ x.c
      · by_cases h2 : x.c ≤ 4
        · by_cases h3 : 1 ≤ x.r
          · have HS : Hid (ok1B x = decide (x.r ≤ 4)) := Hid.intro (by simp [ok1B, inB, h0, h1, h2, h3])
            go_wp2_with (go_at_call 8; refine KT.out.mono ?_; rintro e w2 ⟨rfl, rfl⟩)
            go_meet
            case rel => exact ⟨vB HS.out.symm, rfl⟩
          · have HS : Hid (ok1B x = false) := Hid.intro (by simp [ok1B, inB, h3])
            go_wp2_with (go_at_call 8; refine KT.out.mono ?_; rintro e w2 ⟨rfl, rfl⟩)
            go_meet
            case rel => exact ⟨vB HS.out.symm, rfl⟩
        · have HS : Hid (ok1B x = false) := Hid.intro (by simp [ok1B, inB, h2])
          go_wp2_with (go_at_call 8; refine KT.out.mono ?_; rintro e w2 ⟨rfl, rfl⟩)
          go_meet
          case rel => exact ⟨vB HS.out.symm, rfl⟩
      · have HS : Hid (ok1B x = false) := Hid.intro (by simp [ok1B, inB, h1])
        go_wp2_with (go_at_call 8; refine KT.out.mono ?_; rintro e w2 ⟨rfl, rfl⟩)
        go_meet
        case rel => exact ⟨vB HS.out.symm, rfl⟩
  case rest =>
    obtain ⟨rfl, hwc⟩ := hcut
    have hwc' := hwc.symm
    clear hwc
    subst hwc'
    have hlt1 : w1.heap.size < W1.heap.size := (Array.getElem?_eq_some_iff.1 HX1).1
    have hn0 : w1.heap.size ≠ W1.heap.size := by omega
    have hn1 : w1.heap.size ≠ W1.heap.size + 1 := by omega
    have hn2 : w1.heap.size ≠ W1.heap.size + 1 + 1 := by omega
    have hn3 : w1.heap.size ≠ W1.heap.size + 2 := by omega
    go_upto_region 5 with fail
    go_cut [4] (fun s W => s = .bool (cellOkB x.s x.c x.r x.a1 x.b1 x.a2 x.b2 x.a3 x.b3 x.a4 x.b4) ∧ Hid (Below W1.heap.size W1 W))
    case first =>
      cases h0 : ok1B x with
      | false =>
        have HS : Hid (cellOkB x.s x.c x.r x.a1 x.b1 x.a2 x.b2 x.a3 x.b3 x.a4 x.b4 = false) := Hid.intro (by rw [← ok2_eq, h0]; rfl)
        go_wp2_with fail
        go_meet
        case rel => exact ⟨vB HS.out.symm, Below.refl _ _⟩
      | true =>
        cases h1 : brdOkB x.a1 x.b1 with
        | false =>
          have HS : Hid (cellOkB x.s x.c x.r x.a1 x.b1 x.a2 x.b2 x.a3 x.b3 x.a4 x.b4 = false) := Hid.intro (by rw [← ok2_eq]; simp only [h0, h1, Bool.false_and, Bool.and_false])
          go_wp2_with (go_at_call 11; refine (implBrdOk _ _ _).mono ?_; rintro e w2 ⟨rfl, rfl⟩)
          go_meet
          case rel => exact ⟨vB HS.out.symm, by repeat (first | exact Below.refl _ _ | apply k_alloc)⟩
        | true =>
          cases h2 : brdOkB x.a2 x.b2 with
          | false =>
            have HS : Hid (cellOkB x.s x.c x.r x.a1 x.b1 x.a2 x.b2 x.a3 x.b3 x.a4 x.b4 = false) := Hid.intro (by rw [← ok2_eq]; simp only [h0, h1, h2, Bool.false_and, Bool.and_false])
            go_wp2_with (go_at_call 11; refine (implBrdOk _ _ _).mono ?_; rintro e w2 ⟨rfl, rfl⟩)
            go_meet
            case rel => exact ⟨vB HS.out.symm, by repeat (first | exact Below.refl _ _ | apply k_alloc)⟩
          | true =>
            cases h3 : brdOkB x.a3 x.b3 with
            | false =>
              have HS : Hid (cellOkB x.s x.c x.r x.a1 x.b1 x.a2 x.b2 x.a3 x.b3 x.a4 x.b4 = false) := Hid.intro (by rw [← ok2_eq]; simp only [h0, h1, h2, h3, Bool.false_and, Bool.and_false])
              go_wp2_with (go_at_call 11; refine (implBrdOk _ _ _).mono ?_; rintro e w2 ⟨rfl, rfl⟩)
              go_meet
              case rel => exact ⟨vB HS.out.symm, by repeat (first | exact Below.refl _ _ | apply k_alloc)⟩
            | true =>
              have HS : Hid (cellOkB x.s x.c x.r x.a1 x.b1 x.a2 x.b2 x.a3 x.b3 x.a4 x.b4 = brdOkB x.a4 x.b4) := Hid.intro (by rw [← ok2_eq]; simp only [h0, h1, h2, h3, Bool.true_and])
              have e3 := k_alloc (k_alloc (k_alloc (Below.refl W1.heap.size W1) (.cells #[.int .i64 x.a1, .int .i64 x.b1] 27)) (.cells #[.int .i64 x.a2, .int .i64 x.b2] 27)) (.cells #[.int .i64 x.a3, .int .i64 x.b3] 27)
              have c9 := (e3.cell (p := ⟨w1.heap.size, 9, none⟩) hlt1).trans z9
              have c10 := (e3.cell (p := ⟨w1.heap.size, 10, none⟩) hlt1).trans z10
              clear e3
              go_wp2_with (go_at_call 11; refine (implBrdOk _ _ _).mono ?_; rintro e w2 ⟨rfl, rfl⟩)
              go_meet
              case rel => exact ⟨vB HS.out.symm, by repeat (first | exact Below.refl _ _ | apply k_alloc)⟩
    case rest =>
      obtain ⟨rfl, HB2⟩ := hcut
      have HX2 := (HB2.out.block w1.heap.size hlt1).trans HX1
      have hlt2 : w1.heap.size < wc.heap.size := (Array.getElem?_eq_some_iff.1 HX2).1
      have hne := bw_some wc
      have q0 := bw_cell (a := ⟨w1.heap.size, 0, none⟩) (v := .string x.s) hlt2 (cellB HX2)
      have q1 := bw_cell (a := ⟨w1.heap.size, 1, none⟩) (v := .int .i64 x.c) hlt2 (cellB HX2)
      have q2 := bw_cell (a := ⟨w1.heap.size, 2, none⟩) (v := .int .i64 x.r) hlt2 (cellB HX2)
      have q3 := bw_cell (a := ⟨w1.heap.size, 3, none⟩) (v := .int .i64 x.a1) hlt2 (cellB HX2)
      have q4 := bw_cell (a := ⟨w1.heap.size, 4, none⟩) (v := .int .i64 x.b1) hlt2 (cellB HX2)
      have q5 := bw_cell (a := ⟨w1.heap.size, 5, none⟩) (v := .int .i64 x.a2) hlt2 (cellB HX2)
      have q6 := bw_cell (a := ⟨w1.heap.size, 6, none⟩) (v := .int .i64 x.b2) hlt2 (cellB HX2)
      have q7 := bw_cell (a := ⟨w1.heap.size, 7, none⟩) (v := .int .i64 x.a3) hlt2 (cellB HX2)
      have q8 := bw_cell (a := ⟨w1.heap.size, 8, none⟩) (v := .int .i64 x.b3) hlt2 (cellB HX2)
      have q9 := bw_cell (a := ⟨w1.heap.size, 9, none⟩) (v := .int .i64 x.a4) hlt2 (cellB HX2)
      have q10 := bw_cell (a := ⟨w1.heap.size, 10, none⟩) (v := .int .i64 x.b4) hlt2 (cellB HX2)
      have KI := Hid.intro (fun W : World => implCellOk x.s x.c x.r x.a1 x.b1 x.a2 x.b2 x.a3 x.b3 x.a4 x.b4 W hxm)
      have KS := Hid.intro (fun W : World => specCellOk x.s x.c x.r x.a1 x.b1 x.a2 x.b2 x.a3 x.b3 x.a4 x.b4 W hxm)
      have KN := Hid.intro (fun W : World => implCellOk ⟨#[]⟩ 1 1 0 0 0 0 0 0 0 0 W (by unfold maxLen; decide))
      rw [one_ok] at KN
      clear z0 z1 z2 z3 z4 z5 z6 z7 z8 z9 z10
      generalize cellOkB x.s x.c x.r x.a1 x.b1 x.a2 x.b2 x.a3 x.b3 x.a4 x.b4 = ok at KI KS ⊢
      go_wp2_with fail
      refine wp_region_quiet_below hmx (by kernel_rfl) ?_
      repeat (go_big_quiet_step (first | (go_at_call_of 12 (x.c); refine bw_of (KI.out _)) | (go_at_call 12; refine bw_of (KN.out _)) | (go_at_call 13; refine bw_of (KS.out _))))
      refine wpQuiet_nil ?_
      intro W3 hw'
      obtain ⟨⟨Wx, hW3⟩, hw''⟩ := hw'
      subst hw''
      have HB3 := Hid.intro (HB1.out.trans ((k_trans HB2.out hW3).mono (by have := HB1.out.size; omega)))
      clear q0 q1 q2 q3 q4 q5 q6 q7 q8 q9 q10 KI KS KN hW3
      go_wp2
      go_ret
      exact ⟨rfl, HB3.out⟩

theorem lawCellOk (a : Option Addr) (len cap : Nat) (w : World) (h : IsCode w a len cap) :
    Calls Try.prog 4 #[.slice a len cap] w fun e w' => e = .returned (.bool true) ∧ Below w.heap.size w w' := by
  by_cases hl : len ≤ 1048576
  · exact lawCellOk_walk a len cap hl w h
  · have hl' : (1048576 : Int) < (len : Int) := by omega
    clear h
    go_enter Try.func4, Try.ntmps4
    go_wp2
    go_ret
    exact ⟨rfl, Below.refl _ _⟩
end Go.Proofs.Ytfkfgmfahoeaoal
