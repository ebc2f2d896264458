/-
  PROVED HERE: the program's mayBeWide: a table that is ok, and a width that may be; nothing that was in memory is turned.
-/
import Derived.Test.YtfkkhfiiokhnaayTblOk
import Derived.Test.YtfkkhfiiokhnaayInB
namespace Go.Proofs.Ytfkkhfiiokhnaay
open Go.RowKit

set_option maxRecDepth 100000 in
set_option maxHeartbeats 1000000 in
theorem implmayBeWide (ac ar : Option Addr) (cc cr : Nat) (t : T) (width : Int) (w : World) {z : Nat} (hc : ColsAt w z (.slice ac t.cols.length cc) t.cols) (hr : RowsAt w z (.slice ar t.rows.length cr) t.rows) :
    Calls Try.prog 32 #[.agg #[.slice ac t.cols.length cc, .int .i64 t.head, .int .i64 t.foot, .slice ar t.rows.length cr, .int .i64 t.gap], .int .i64 width] w fun e w' => e = .returned (.bool (tblB t && inB width 0 300)) ∧ Below w.heap.size w w' := by
  have K0 := k_alloc (Below.refl w.heap.size w) (.cells #[.slice ac t.cols.length cc, .int .i64 t.head, .int .i64 t.foot, .slice ar t.rows.length cr, .int .i64 t.gap] 32)
  have KT := Hid.intro (implTblOk ac ar cc cr t _ (hc.kept K0) (hr.kept K0))
  have HK0 := Hid.intro K0
  have HI := Hid.intro (within_any width 0 300)
  clear hc hr K0
  cases htk : tblB t with
  | false =>
    rw [htk] at KT
    clear htk
    go_enter Try.func32, Try.ntmps32
    go_wp2_with fail
    refine KT.out.mono ?_
    rintro e w1 ⟨rfl, hb1⟩
    have HK1 := Hid.intro (k_trans HK0.out hb1)
    clear hb1 KT HK0
    go_wp2
    go_ret
    exact ⟨rfl, HK1.out⟩
  | true =>
    rw [htk] at KT
    clear htk
    go_enter Try.func32, Try.ntmps32
    go_wp2_with fail
    refine KT.out.mono ?_
    rintro e w1 ⟨rfl, hb1⟩
    have HK1 := Hid.intro (k_trans HK0.out hb1)
    clear hb1 KT HK0
    go_wp2_with fail
    refine (HI.out _).mono ?_
    rintro e w2 ⟨rfl, rfl⟩
    go_wp2
    go_ret
    exact ⟨by simp, HK1.out⟩
end Go.Proofs.Ytfkkhfiiokhnaay
