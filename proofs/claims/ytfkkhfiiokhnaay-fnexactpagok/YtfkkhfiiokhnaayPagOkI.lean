/-
  PROVED HERE: what the program's PagOk answers at any table, width and heights in memory; nothing that was in memory is turned.
-/
import Derived.Test.YtfkkhfiiokhnaayPagOkB
import Derived.Test.YtfkkhfiiokhnaayWcM
namespace Go.Proofs.Ytfkkhfiiokhnaay
open Go.RowKit

set_option maxRecDepth 100000 in
set_option maxHeartbeats 1000000 in
theorem implPagOk (ac ar : Option Addr) (cc cr : Nat) (t : T) (width : Int) (vh : Value) (hs : List Int) (w : World) {z : Nat} (hc : ColsAt w z (.slice ac t.cols.length cc) t.cols) (hr : RowsAt w z (.slice ar t.rows.length cr) t.rows) (hh : IntsAt w vh hs) :
    Calls Try.prog 11 #[.agg #[.slice ac t.cols.length cc, .int .i64 t.head, .int .i64 t.foot, .slice ar t.rows.length cr, .int .i64 t.gap], .int .i64 width, vh] w fun e w' => e = .returned (.bool (pagB t width hs)) ∧ Below w.heap.size w w' := by
  obtain ⟨ah, ch, rfl, hlen⟩ := hh.form
  have K0 := k_alloc (Below.refl w.heap.size w) (.cells #[.slice ac t.cols.length cc, .int .i64 t.head, .int .i64 t.foot, .slice ar t.rows.length cr, .int .i64 t.gap] 32)
  have KM := Hid.intro (implmayBeWide ac ar cc cr t width _ (hc.kept K0) (hr.kept K0))
  have HK0 := Hid.intro K0
  have HI := Hid.intro (within_any (hs.length : Int) 1 60)
  have HH := Hid.intro hh
  have HV : Hid (pagB t width hs = ((tblB t && inB width 0 300) && (inB hs.length 1 60 && hsB hs))) := rfl
  clear hc hr K0 hh
  generalize (tblB t && inB width 0 300) = m at KM HV
  cases m with
  | false =>
    rw [HV.out]
    go_enter Try.func11, Try.ntmps11
    go_wp2_with fail
    refine KM.out.mono ?_
    rintro e w1 ⟨rfl, hb1⟩
    have HK1 := Hid.intro (k_trans HK0.out hb1)
    clear hb1 KM HK0 HV
    go_wp2
    go_ret
    exact ⟨rfl, HK1.out⟩
  | true =>
    generalize inB (hs.length : Int) 1 60 = n at HI HV
    cases n with
    | false =>
      rw [HV.out]
      go_enter Try.func11, Try.ntmps11
      go_wp2_with fail
      refine KM.out.mono ?_
      rintro e w1 ⟨rfl, hb1⟩
      have HK1 := Hid.intro (k_trans HK0.out hb1)
      clear hb1 KM HK0 HV
      go_wp2_with fail
      refine (HI.out _).mono ?_
      rintro e w2 ⟨rfl, rfl⟩
      go_wp2
      go_ret
      exact ⟨rfl, HK1.out⟩
    | true =>
      have HW : Hid (pagB t width hs = hsB hs) := by rw [Hid, HV.out]; rfl
      clear HV
      go_enter Try.func11, Try.ntmps11
      go_wp2_with fail
      refine KM.out.mono ?_
      rintro e w1 ⟨rfl, hb1⟩
      have HK1 := Hid.intro (k_trans HK0.out hb1)
      clear hb1 KM HK0
      go_wp2_with fail
      refine (HI.out _).mono ?_
      rintro e w2 ⟨rfl, rfl⟩
      clear HI
      have H2 := Hid.intro (HH.out.kept HK1.out)
      go_wp2_with fail
      go_loop [21] (fun i => ∃ k : Nat, k ≤ hs.length ∧ i = .int .i64 k ∧ Hid (∀ i, i < k → inB (hs.getD i 0) 0 100 = true)) (fun i => hs.length - (intOf i).toNat)
      case atStart => exact ⟨0, Nat.zero_le _, rfl, fun i hi => absurd hi (Nat.not_lt_zero _)⟩
      case round =>
        obtain ⟨k, hk, rfl, HA⟩ := hrel
        by_cases hlt : k < hs.length
        · obtain ⟨b, off, cap', e', hc1, hc2, hbl, hx⟩ := H2.out.get hlt
          simp only [Value.slice.injEq, true_and] at e'
          obtain ⟨rfl, rfl⟩ := e'
          unfold maxLen at hc2
          have HN := Hid.intro (fun h => hsB_no hlt h)
          have HY := Hid.intro (fun h => hs_next HA.out h)
          generalize hs.getD k 0 = x at hx HN HY
          have HX := Hid.intro (within_any x 0 100)
          go_wp2_with fail
          refine (HX.out _).mono ?_
          cases hin : inB x 0 100 with
          | false =>
            have HF := Hid.intro (HN.out hin)
            rintro e w3 ⟨rfl, rfl⟩
            clear hin
            go_wp2
            go_ret
            exact ⟨by rw [HW.out, HF.out]; rfl, HK1.out⟩
          | true =>
            have HF := Hid.intro (HY.out hin)
            rintro e w3 ⟨rfl, rfl⟩
            clear hin
            go_wp2
            go_round
            case rel => exact ⟨k + 1, by omega, by go_num, HF⟩
            case measure => simp [intOf]; omega
        · obtain rfl : k = hs.length := by omega
          have HF := Hid.intro (hsB_yes HA.out)
          go_wp2
          go_ret
          exact ⟨by rw [HW.out, HF.out]; rfl, HK1.out⟩
end Go.Proofs.Ytfkkhfiiokhnaay
