/-
  PROVED HERE: the law FnWidCell returns true at every code that lies in memory.
-/
import Derived.Test.YtgcobajekffmoafDrawWC
import Derived.Test.YtgcobajekffmoafWidI
import Derived.Test.YtgcobajekffmoafWidCS
import Derived.Test.YtgcobajekffmoafWidSm
import Derived.Test.YtgcobajekffmoafQuietB
import Derived.Test.YtgcobajekffmoafPwOk
import Derived.Deep.DeepCutAuto
namespace Go.Proofs.Ytgcobajekffmoaf
open Go.RowKit Go.BigFrame

/-- the box of the cell, the numbers, all along -/
def Wc (w : World) (cb : Nat) (x : GC) (v : Value) (l : List Int) (W : World) : Prop := Below w.heap.size w W ∧ IntsAt W v l ∧ W.heap[cb]? = some (.cells #[.int .i64 x.row, .int .i64 x.col, .int .i64 x.rows, .int .i64 x.cols, .int .i64 x.ins] 29)
theorem Wc.kept {w W W' : World} {cb : Nat} {x : GC} {v : Value} {l : List Int} (h : Wc w cb x v l W) (hb : Below W.heap.size W W') : Wc w cb x v l W' := ⟨h.1.trans (hb.mono h.1.size), h.2.1.kept hb, (hb.block cb (Array.getElem?_eq_some_iff.1 h.2.2).1).trans h.2.2⟩
theorem Wc.at {w W : World} {cb : Nat} {x : GC} {v : Value} {l : List Int} (h : Wc w cb x v l W) : W.cell? ⟨cb, 0, none⟩ = some (.int .i64 x.row) ∧ W.cell? ⟨cb, 1, none⟩ = some (.int .i64 x.col) ∧ W.cell? ⟨cb, 2, none⟩ = some (.int .i64 x.rows) ∧ W.cell? ⟨cb, 3, none⟩ = some (.int .i64 x.cols) ∧ W.cell? ⟨cb, 4, none⟩ = some (.int .i64 x.ins) :=
  ⟨cellB h.2.2, cellB h.2.2, cellB h.2.2, cellB h.2.2, cellB h.2.2⟩
theorem implWidEndC (v : Value) (l : List Int) (gap col : Int) (w : World) (h : IntsAt w v l) :
    Calls Try.prog 8 #[v, .int .i64 gap, .int .i64 col] w fun e w' => e = .returned (.int .i64 (endV l gap col)) ∧ Below w.heap.size w w' :=
  (implWidEnd v l gap col w h).mono (fun _ _ ⟨h1, n, h2⟩ => ⟨h1, h2 ▸ k_drewN (Below.refl _ _) n⟩)

set_option maxRecDepth 100000 in
set_option maxHeartbeats 4000000 in
theorem lawWidCell_walk (A : Option Addr) (len cap : Nat) (hlen : len ≤ 1048576) (w : World) (h : IsCode w A len cap) :
    Calls Try.prog 4 #[.slice A len cap] w fun e w' => e = .returned (.bool true) ∧ Below w.heap.size w w' := by
  have hl : ¬ (1048576 : Int) < (len : Int) := by omega
  have hmx : Try.prog.follows .mixedOrders = true := by kernel_rfl
  have HD := Hid.intro h
  clear h
  go_enter Try.func4, Try.ntmps4
  go_wp2_with fail
  refine (drawWidCell_any _ _ _ _ HD.out).mono ?_
  rintro e w1 ⟨aa, cc, l, gap, x, rfl, hll, hS, hg, hgo, hI, hb1⟩
  have HW : Hid (Wc w w1.heap.size x (.slice aa l.length cc) l (w1.alloc (.cells #[.int .i64 x.row, .int .i64 x.col, .int .i64 x.rows, .int .i64 x.cols, .int .i64 x.ins] 29))) := ⟨hb1.alloc hb1.size _, hI.kept (k_alloc (Below.refl _ _) _), newestB _ _⟩
  have HS := Hid.intro hS
  have KI := Hid.intro (fun W (h : Wc w w1.heap.size x (.slice aa l.length cc) l W) => implWidCell _ l (by omega) gap x hgo W h.2.1)
  have KS := Hid.intro (fun W (h : Wc w w1.heap.size x (.slice aa l.length cc) l W) => specWidCell _ l (by omega) gap x hgo W h.2.1)
  clear hS hI hb1 HD
  obtain ⟨_, ⟨c1, c2⟩, _, ⟨c3, c4⟩, _⟩ := hgo
  have HZ : Hid (x.cols ≤ 0 → cellV l gap x = 0) := cellV_none
  have HV : Hid (∀ c m : Nat, x.col = c → x.cols = m → 1 ≤ m → c + m ≤ l.length → cellV l gap x = endV l gap ((c : Int) + (m : Int) - 1) - atV l gap c ∧ (-9 ≤ atV l gap c ∧ atV l gap c ≤ 300) ∧ -9 ≤ endV l gap ((c : Int) + (m : Int) - 1) ∧ endV l gap ((c : Int) + (m : Int) - 1) ≤ 300) := fun c m h1 h2 h3 h4 => cellV_small HS.out hll hg h1 h2 h3 h4
  generalize cellV l gap x = y at KI KS HZ HV
  have hyy : (y != y) = false := by simp
  go_upto_region 4 with fail
  generalize w1.alloc (.cells #[.int .i64 x.row, .int .i64 x.col, .int .i64 x.rows, .int .i64 x.cols, .int .i64 x.ins] 29) = W2 at HW ⊢
  generalize w1.heap.size = cb at HW KI KS ⊢
  obtain ⟨q0, q1, q2, q3, q4⟩ := HW.out.at
  go_wp2_with fail
  refine (KI.out _ HW.out).mono ?_
  rintro e w3 ⟨rfl, hb3⟩
  have HW3 := Hid.intro (HW.out.kept hb3)
  clear hb3 HW q0 q1 q2 q3 q4
  obtain ⟨q0, q1, q2, q3, q4⟩ := HW3.out.at
  go_wp2_with fail
  refine (KS.out _ HW3.out).mono ?_
  rintro e w4 ⟨rfl, hb4⟩
  have HW4 := Hid.intro (HW3.out.kept hb4)
  clear hb4 HW3 q0 q1 q2 q3 q4 KI KS
  obtain ⟨q0, q1, q2, q3, q4⟩ := HW4.out.at
  by_cases h1 : x.cols < 1
  case pos =>
    obtain rfl : y = 0 := HZ.out (by omega)
    have hp : ¬ (0 : Int) < x.cols := by omega
    clear HZ HV
    go_wp2_with fail
    refine (pwOk_any _).mono ?_
    rintro e w5 ⟨rfl, rfl⟩
    go_wp2
    go_ret
    exact ⟨rfl, HW4.out.1⟩
  have hp : (0 : Int) < x.cols := by omega
  by_cases h2 : 9 < x.cols
  case pos =>
    clear HZ HV
    go_wp2_with fail
    refine (pwOk_any _).mono ?_
    rintro e w5 ⟨rfl, rfl⟩
    go_wp2
    go_ret
    exact ⟨rfl, HW4.out.1⟩
  by_cases h3 : x.col < 0
  case pos =>
    clear HZ HV
    go_wp2_with fail
    refine (pwOk_any _).mono ?_
    rintro e w5 ⟨rfl, rfl⟩
    go_wp2
    go_ret
    exact ⟨rfl, HW4.out.1⟩
  by_cases h4 : 9 < x.col
  case pos =>
    clear HZ HV
    go_wp2_with fail
    refine (pwOk_any _).mono ?_
    rintro e w5 ⟨rfl, rfl⟩
    go_wp2
    go_ret
    exact ⟨rfl, HW4.out.1⟩
  by_cases h5 : (l.length : Int) < x.col + x.cols
  case pos =>
    clear HZ HV
    go_wp2_with fail
    refine (pwOk_any _).mono ?_
    rintro e w5 ⟨rfl, rfl⟩
    go_wp2
    go_ret
    exact ⟨rfl, HW4.out.1⟩
  obtain ⟨c, hc⟩ := Int.eq_ofNat_of_zero_le (show 0 ≤ x.col by omega)
  obtain ⟨m, hm⟩ := Int.eq_ofNat_of_zero_le (show 0 ≤ x.cols by omega)
  obtain ⟨hv, hab, heb1, heb2⟩ := HV.out c m hc hm (by omega) (by omega)
  rw [hc] at q1 h3 h4 h5 c1 c2
  rw [hm] at q3 h1 h2 h5 hp c3 c4
  clear HZ HV hc hm
  have hey : (y == endV l gap ((c : Int) + (m : Int) - 1) - atV l gap (c : Int)) = true := by rw [hv]; simp
  clear hv
  go_upto_region 9 with fail
  have hcb : cb < w4.heap.size := (Array.getElem?_eq_some_iff.1 HW4.out.2.2).1
  have hne := bw_some w4
  have g1 := bw_cell (a := ⟨cb, 1, none⟩) hcb q1
  have g3 := bw_cell (a := ⟨cb, 3, none⟩) hcb q3
  have KA2 := Hid.intro (fun (p : BW w4) (q : Int) => bw_same (implWidAt _ l gap q p.u (HW4.out.2.1.kept p.h)))
  have KE2 := Hid.intro (fun (p : BW w4) (q : Int) => bw_of (implWidEndC _ l gap q p.u (HW4.out.2.1.kept p.h)))
  clear q0 q1 q2 q3 q4
  refine wp_region_quiet_below hmx (by kernel_rfl) ?_
  repeat (go_big_quiet_step (first | (go_at_call 6; refine KA2.out _ _) | (go_at_call 8; refine KE2.out _ _) | (go_at_call 13; refine bw_same (pwOk_any _))))
  refine wpQuiet_nil ?_
  intro W5 hw'
  obtain ⟨⟨Wx, hW5⟩, hw''⟩ := hw'
  subst hw''
  go_wp2
  go_ret
  exact ⟨rfl, (HW4.out.kept hW5).1⟩

theorem lawWidCell (a : Option Addr) (len cap : Nat) (w : World) (h : IsCode w a len cap) :
    Calls Try.prog 4 #[.slice a len cap] w fun e w' => e = .returned (.bool true) ∧ Below w.heap.size w w' := by
  by_cases hl : len ≤ 1048576
  · exact lawWidCell_walk a len cap hl w h
  · have hl' : (1048576 : Int) < (len : Int) := by omega
    clear h
    go_enter Try.func4, Try.ntmps4
    go_wp2
    go_ret
    exact ⟨rfl, Below.refl _ _⟩
end Go.Proofs.Ytgcobajekffmoaf
