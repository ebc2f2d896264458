/-
  PROVED HERE: what the program's HgtCell answers of any list of numbers in memory and any cell; nothing that was in memory is turned.
-/
import Derived.Test.YtmdghonefdmihagWidCI
namespace Go.Proofs.Ytmdghonefdmihag
open Go.RowKit

/-- a cell's rows as columns -/
def hgtG (x : GC) : GC := ⟨0, x.row, 0, x.rows, 0⟩
theorem hgtG_ok {x : GC} (h : GOk x) : GOk (hgtG x) := by
  obtain ⟨a, b, c, d, e⟩ := h
  exact ⟨⟨by show (-9223372036854775808 : Int) ≤ 0; omega, by show (0 : Int) < 9223372036854775808; omega⟩, a, ⟨by show (-9223372036854775808 : Int) ≤ 0; omega, by show (0 : Int) < 9223372036854775808; omega⟩, c, ⟨by show (-9223372036854775808 : Int) ≤ 0; omega, by show (0 : Int) < 9223372036854775808; omega⟩⟩
/-- how high a cell is -/
def highV (l : List Int) (x : GC) : Int := cellV l 0 (hgtG x)
set_option maxRecDepth 100000 in
set_option maxHeartbeats 1000000 in
theorem implHgtCell (v : Value) (l : List Int) (hl : l.length ≤ 1048576) (x : GC) (hx : GOk x) (w : World) (h : IntsAt w v l) :
    Calls Try.prog 8 #[v, .agg #[.int .i64 x.row, .int .i64 x.col, .int .i64 x.rows, .int .i64 x.cols, .int .i64 x.ins]] w fun e w' => e = .returned (.int .i64 (highV l x)) ∧ Below w.heap.size w w' := by
  obtain ⟨a, cap, rfl, hlen⟩ := h.form
  have KC := Hid.intro (fun W => implWidCell (.slice a l.length cap) l hl 0 (hgtG x) (hgtG_ok hx) W)
  have K0 := k_alloc (Below.refl w.heap.size w) (.cells #[.int .i64 x.row, .int .i64 x.col, .int .i64 x.rows, .int .i64 x.cols, .int .i64 x.ins] 27)
  have HK := Hid.intro K0
  have H := Hid.intro (h.kept K0)
  clear h hx K0
  go_enter Try.func8, Try.ntmps8
  go_wp2_with fail
  refine (KC.out _ H.out).mono ?_
  rintro e w1 ⟨rfl, hb1⟩
  have HK1 := Hid.intro (k_trans HK.out hb1)
  have HV : Hid (cellV l 0 (hgtG x) = highV l x) := rfl
  rw [HV.out]
  clear hb1 H HK
  go_wp2
  go_ret
  exact ⟨rfl, HK1.out⟩
end Go.Proofs.Ytmdghonefdmihag
