/-
  PROVED HERE: small facts on places of a grid, for the other texts of this claim. Also: what the program's reaches answers at every argument; nothing in memory is turned. Also: what the program's acrossAll and WidCell answer of any list of numbers in memory and any cell; nothing that was in memory is turned. Also: what the model's l5Said answers at a table that lies in memory; nothing that was in memory is turned. Also: what the model's sum answers of lists of numbers in memory; nothing that was in memory is turned. Also: what the model's l4Next answers of lists in memory; the four rows that the model's l4Share keeps.
-/
import Derived.Test.YtfkkhfiiokhnaaeGreatB7
import Derived.Test.YtfkkhfiiokhnaaeGreatB6
import Derived.Test.YtfkkhfiiokhnaaeGreatB26
import Derived.Test.YtfkkhfiiokhnaaeGreatB15
import Derived.Test.YtfkkhfiiokhnaaeGreatB23
import Derived.Test.YtfkkhfiiokhnaaeGreatB25
import Derived.Laws.AppendOwn
import Derived.Deep.RegionWith
import Derived.Deep.QuietTactic
import Derived.BigQuiet
import Derived.Maps.AppendAt
namespace Go.Proofs.YtfkkhfiiokhnaaeGreat
open Go.RowKit

theorem ret_boolG {a b : Bool} (h : a = b) : Ending.returned (.bool a) = .returned (.bool b) := by rw [h]
def isIn (row ins : Int) (x : GC) : Bool := (x.row == row) && (x.ins == ins)
/-- whether a place is one of so many from a first one on -/
def amongB (x first many : Int) : Bool := decide (first ≤ x) && decide (0 < many) && decide (x - first < many)
def holdsB (row col : Int) (x : GC) : Bool := amongB row x.row x.rows && amongB col x.col x.cols

theorem lt_of_blockG {w : World} {g : Nat} {o : Obj} (h : w.heap[g]? = some o) : g < w.heap.size := (Array.getElem?_eq_some_iff.1 h).1

theorem wrap_sub {x f : Int} (hx : -9223372036854775808 ≤ x ∧ x ≤ 9223372036854775807) (hf : -9223372036854775808 ≤ f ∧ f ≤ 9223372036854775807) (h : f ≤ x) : IntKind.u64.wrap (IntKind.u64.wrap x - IntKind.u64.wrap f) = x - f := by
  simp [IntKind.wrap, IntKind.bits, IntKind.signed]
  omega

end Go.Proofs.YtfkkhfiiokhnaaeGreat
namespace Go.Proofs.YtfkkhfiiokhnaaeGreat
open Go.RowKit

theorem reaches_any (x f m : Int) (hx : I64 x) (hf : I64 f) (hm : I64 m) (w : World) :
    Calls Tryz.prog 51 #[.int .i64 f, .int .i64 m, .int .i64 x] w fun e w' => e = .returned (.bool (amongB x f m)) ∧ w' = w := by
  unfold I64 at hx hf hm
  by_cases h1 : f ≤ x
  · by_cases h2 : 0 < m
    · have e : amongB x f m = decide (x - f < m) := by simp [amongB]; omega
      rw [e]
      go_enter Tryz.func51, Tryz.ntmps51
      go_wp2
      go_ret
      exact ⟨ret_boolG (by rw [wrap_sub hx hf h1]), rfl⟩
    · have e : amongB x f m = false := by simp [amongB]; omega
      rw [e]
      go_enter Tryz.func51, Tryz.ntmps51
      go_wp2
      go_ret
      exact ⟨rfl, rfl⟩
  · have e : amongB x f m = false := by simp [amongB]; omega
    rw [e]
    go_enter Tryz.func51, Tryz.ntmps51
    go_wp2
    go_ret
    exact ⟨rfl, rfl⟩
end Go.Proofs.YtfkkhfiiokhnaaeGreat
namespace Go.Proofs.YtfkkhfiiokhnaaeGreat
open Go.RowKit

/-- whether a column is of a cell -/
def inCell (x : GC) (k : Nat) : Bool := amongB (k : Int) x.col x.cols
def cellV (l : List Int) (gap : Int) (x : GC) : Int := acrV (ownL l (inCell x) l.length) gap

theorem infoIc : (Tryz.prog.info? 3).map (fun i => (i.zero, i.size, i.bytes)) = some (some (Value.int .i64 0), 1, 8) := by kernel_rfl
/-- what an append of one number leaves -/
theorem app_keeps {w w3 w4 : World} {B n : Nat} {xs : List Value} {x : Int} {o : Value} (hB : w.heap.size ≤ B) (hO : w3.ownsRow B 3 1 o n xs) (K : Below w.heap.size w w3)
    (hg : (w3.alloc (.cells #[.int .i64 x] 3)).grownBy w4 o.ownBlock) : Below w.heap.size w w4 ∧ ∀ g, g < B → g < w3.heap.size → w4.heap[g]? = w3.heap[g]? := by
  have hA := k_alloc K (.cells #[.int .i64 x] 3)
  refine ⟨⟨hg.os.trans hA.os, hg.tape.trans hA.tape, hg.output.trans hA.output, Nat.le_trans hA.size hg.size, fun k hk => (hg.block k (Nat.lt_of_lt_of_le hk hA.size) (fun hb => ?_)).trans (hA.block k hk)⟩, fun k hk hl => (hg.block k (by simp; omega) (fun hb => ?_)).trans (Below.heap_alloc _ _ _ hl)⟩
  · have := (hO.lt k hb.symm).1
    omega
  · have := (hO.lt k hb.symm).1
    omega
theorem ownL_yes {l : List Int} {p : Nat → Bool} {k : Nat} (h : p k = true) : ownL l p (k + 1) = ownL l p k ++ [l.getD k 0] := by rw [ownL, if_pos h]
theorem ownL_no {l : List Int} {p : Nat → Bool} {k : Nat} (h : p k = false) : ownL l p (k + 1) = ownL l p k := by rw [ownL, if_neg (by rw [h]; simp)]

set_option maxRecDepth 100000 in
set_option maxHeartbeats 1000000 in
theorem implWidCell (v : Value) (l : List Int) (hl : l.length ≤ 1048576) (gap : Int) (x : GC) (hx : GOk x) (w : World) (h : IntsAt w v l) :
    Calls Tryz.prog 23 #[v, .int .i64 gap, .agg #[.int .i64 x.row, .int .i64 x.col, .int .i64 x.rows, .int .i64 x.cols, .int .i64 x.ins]] w fun e w' => e = .returned (.int .i64 (cellV l gap x)) ∧ Below w.heap.size w w' := by
  obtain ⟨i0, hi, hz0, hz1, hz2⟩ := info_parts infoIc
  obtain ⟨a, cap, rfl, hlen⟩ := h.form
  obtain ⟨_, b1, _, b3, _⟩ := hx
  have K0 := k_alloc (Below.refl w.heap.size w) (.cells #[.int .i64 x.row, .int .i64 x.col, .int .i64 x.rows, .int .i64 x.cols, .int .i64 x.ins] 49)
  have X0 := newestB w (.cells #[.int .i64 x.row, .int .i64 x.col, .int .i64 x.rows, .int .i64 x.cols, .int .i64 x.ins] 49)
  have H := Hid.intro h
  have HR := Hid.intro (fun (k : Nat) (hk : k ≤ 1048576) => reaches_any (k : Int) x.col x.cols (by unfold I64; omega) b1 b3)
  clear h b1 b3
  go_enter Tryz.func23, Tryz.ntmps23
  go_wp2_with fail
  go_loopw [7, 12] (fun o i W => ∃ k : Nat, i = .int .i64 k ∧ k ≤ l.length ∧ Hid (W.ownsRow (w.heap.size + 1) 3 1 o (ownL l (inCell x) k).length ((ownL l (inCell x) k).map (Value.int .i64))) ∧ Hid (Below w.heap.size w W) ∧ Hid (W.heap[w.heap.size]? = some (.cells #[.int .i64 x.row, .int .i64 x.col, .int .i64 x.rows, .int .i64 x.cols, .int .i64 x.ins] 49))) (fun _ i _ => l.length - (intOf i).toNat)
  case atStart => exact ⟨0, rfl, Nat.zero_le _, ⟨by simp [ownL], .inl ⟨rfl, rfl⟩⟩, K0, X0⟩
  case round =>
    obtain ⟨k, rfl, hk, HO, HB, HX⟩ := hrel
    have c1 : wr.cell? ⟨w.heap.size, 1, none⟩ = some (.int .i64 x.col) := cellB HX.out
    have c3 : wr.cell? ⟨w.heap.size, 3, none⟩ = some (.int .i64 x.cols) := cellB HX.out
    by_cases hlt : k < l.length
    · obtain ⟨b, off, cap', e', hc1, hc2, hbl, hy⟩ := (H.out.kept HB.out).get hlt
      simp only [Value.slice.injEq, true_and] at e'
      obtain ⟨rfl, rfl⟩ := e'
      unfold maxLen at hc2
      have KR := Hid.intro (HR.out k (by omega) wr)
      have hol := ownL_len l (inCell x) k
      cases hin : inCell x k with
      | false =>
        have HL := Hid.intro (ownL_no (l := l) hin)
        have hin' : amongB (k : Int) x.col x.cols = false := hin
        rw [hin'] at KR
        clear hin hin'
        generalize l.getD k 0 = y at hy
        go_wp2_with fail
        refine KR.out.mono ?_
        rintro e w1 ⟨rfl, rfl⟩
        go_wp2
        go_roundw
        case rel => exact ⟨k + 1, by go_num, by omega, by rw [HL.out]; exact HO, HB, HX⟩
        case measure => simp [intOf]; omega
      | true =>
        have HL := Hid.intro (ownL_yes (l := l) hin)
        have hin' : amongB (k : Int) x.col x.cols = true := hin
        rw [hin'] at KR
        clear hin hin'
        generalize l.getD k 0 = y at hy HL
        generalize ownL l (inCell x) k = xs at HO HL hol
        go_wp2_with fail
        refine KR.out.mono ?_
        rintro e w1 ⟨rfl, rfl⟩
        have hO4 := HO.out
        have hsz : w.heap.size < w1.heap.size := (Array.getElem?_eq_some_iff.1 HX.out).1
        go_wp2_with (at_builtin; refine wpList_append_own _ rfl _ _ 32 rfl (w.heap.size + 1) 3 i0 (.int .i64 0) 1 8 Tryz.underlying32 hi hz0 hz1 hz2 rfl (by decide) _ _ _ rfl (hO4.alloc _) ⟨w1.heap.size, 0, none⟩ 1 1 [.int .i64 y] rfl rfl ?c1 ?c2 ?c3 ?c4 ?c5 ?_)
        case c1 =>
          intro i u hi
          match i, hi with
          | 0, hi => simp at hi; subst hi; simp [Addr.add]
        case c2 => intro u hu; simp at hu; subst hu; rfl
        case c3 => unfold maxLen; omega
        case c4 => omega
        case c5 => simp; omega
        intro v' w5 hown' hgrow' _
        obtain ⟨hB5, hX5⟩ := app_keeps (Nat.le_succ _) hO4 HB.out hgrow'
        have HB5 := Hid.intro hB5
        have HX5 := Hid.intro ((hX5 w.heap.size (Nat.lt_succ_self _) (Array.getElem?_eq_some_iff.1 HX.out).1).trans HX.out)
        have HO5 : Hid (w5.ownsRow (w.heap.size + 1) 3 1 v' (xs ++ [y]).length ((xs ++ [y]).map (Value.int .i64))) := by rw [List.length_append, List.map_append]; exact hown'
        obtain ⟨g', cap'', rfl⟩ := Joins.ownsRow_form hown' (by omega)
        clear hown' hgrow' hO4 hB5 hX5 HO HB HX
        go_wp2
        go_roundw
        case rel => exact ⟨k + 1, by go_num, by omega, by rw [HL.out]; exact HO5, HB5, HX5⟩
        case measure => simp [intOf]; omega
    · obtain rfl : k = l.length := by omega
      have hI := (RowI.of_owns HO.out).at
      obtain ⟨aa, cc, rfl, _⟩ := hI.form
      have KA := Hid.intro (implacrossAll _ _ gap wr hI)
      have HV : Hid (cellV l gap x = acrV (ownL l (inCell x) l.length) gap) := rfl
      clear hI
      go_wp2_with fail
      refine KA.out.mono ?_
      rintro e w1 ⟨rfl, rfl⟩
      go_wp2
      go_ret
      exact ⟨rfl, HB.out⟩
end Go.Proofs.YtfkkhfiiokhnaaeGreat
namespace Go.Proofs.YtfkkhfiiokhnaaeGreat
open Go.RowKit

set_option maxRecDepth 100000 in
set_option maxHeartbeats 1000000 in
theorem specl5Said (ac ar : Option Addr) (cc cr : Nat) (t : T) (q : Int) (hq : 0 ≤ q) (w : World) {z : Nat} (hc : ColsAt w z (.slice ac t.cols.length cc) t.cols) :
    Calls Tryz.prog 69 #[.agg #[.slice ac t.cols.length cc, .int .i64 t.head, .int .i64 t.foot, .slice ar t.rows.length cr, .int .i64 t.gap], .int .i64 q] w fun e w' => e = .returned (.agg #[.int .i64 (sd t.cols q).1, .int .i64 (sd t.cols q).2]) ∧ Below w.heap.size w w' := by
  obtain ⟨_, _, _, hlen⟩ := At.form hc
  unfold maxLen at hlen
  obtain ⟨k, rfl⟩ := Int.eq_ofNat_of_zero_le hq
  by_cases hkl : k < t.cols.length
  · rw [sd_yes hkl]
    have hlt : (k : Int) < (t.cols.length : Int) := by omega
    obtain ⟨b, off, cap', e', hc1, hc2, hbl, hx0, hx1⟩ := At.get hc hkl
    simp only [Value.slice.injEq, true_and] at e'
    obtain ⟨rfl, rfl⟩ := e'
    unfold maxLen at hc2
    generalize t.cols.getD k (0, 0) = p at hx0 hx1 ⊢
    clear hc
    go_enter Tryz.func69, Tryz.ntmps69
    go_wp2
    exact bodyPost_ret (v := .agg #[.int .i64 p.1, .int .i64 p.2]) (by simp [results, Tryz.results69, go_sem]) rfl ⟨rfl, by repeat (first | exact Below.refl _ _ | apply k_alloc)⟩
  · rw [sd_no (inB_false (by omega))]
    have hlt : ¬ (k : Int) < (t.cols.length : Int) := by omega
    clear hc
    go_enter Tryz.func69, Tryz.ntmps69
    go_wp2
    exact bodyPost_ret (v := .agg #[.int .i64 0, .int .i64 0]) (by simp [results, Tryz.results69, go_sem]) rfl ⟨rfl, by repeat (first | exact Below.refl _ _ | apply k_alloc)⟩
end Go.Proofs.YtfkkhfiiokhnaaeGreat
namespace Go.Proofs.YtfkkhfiiokhnaaeGreat
open Go.RowKit

set_option maxRecDepth 100000 in
set_option maxHeartbeats 1000000 in
theorem specl1Sum_any (v : Value) (l : List Int) (hl : l.length ≤ 1000) (hw : l.all wtB = true) (w : World) (h : IntsAt w v l) :
    Calls Tryz.prog 33 #[v] w fun e w' => e = .returned (.int .i64 l.sum) ∧ w' = w := by
  obtain ⟨a, cap, rfl, _⟩ := h.form
  have H := Hid.intro h
  have HW := Hid.intro (sumTo_bound hw)
  have HG := Hid.intro (fun i hi => wt_get (i := i) hw hi)
  clear h hw
  go_enter Tryz.func33, Tryz.ntmps33
  go_wp2_with fail
  go_loop [3, 4] (fun s i => ∃ k : Nat, k ≤ l.length ∧ i = .int .i64 k ∧ s = .int .i64 (sumTo l k)) (fun _ i => l.length - (intOf i).toNat)
  case atStart => exact ⟨0, Nat.zero_le _, rfl, by simp [sumTo]⟩
  case round =>
    obtain ⟨k, hk, rfl, rfl⟩ := hrel
    by_cases hlt : k < l.length
    · obtain ⟨b, off, cap', e', hc1, hc2, hbl, hx⟩ := H.out.get hlt
      simp only [Value.slice.injEq, true_and] at e'
      obtain ⟨rfl, rfl⟩ := e'
      have hb1 := HW.out k hk
      have hb2 := HG.out k hlt
      have HS := Hid.intro (sumTo_succ hlt)
      generalize l.getD k 0 = x at hx HS hb2
      generalize sumTo l k = s at HS hb1
      unfold maxLen at hc2
      go_wp2
      go_round
      case rel => exact ⟨k + 1, by omega, by go_num, by rw [HS.out]⟩
      case measure => simp [intOf]; omega
    · obtain rfl : k = l.length := by omega
      have HE := Hid.intro (sumTo_all l)
      go_wp2
      go_ret
      exact ⟨by rw [← HE.out]; rfl, rfl⟩
end Go.Proofs.YtfkkhfiiokhnaaeGreat
namespace Go.Proofs.YtfkkhfiiokhnaaeGreat
open Go.RowKit

/-- a list of Bools, in the block gb -/
def BoolsAt (w : World) (gb : Nat) (bl : List Bool) : Prop := ∃ bs, w.heap[gb]? = some (.cells bs 4) ∧ bs.size = bl.length ∧ ∀ i, i < bl.length → bs[i]? = some (.bool (bl.getD i false))
theorem BoolsAt.get {w : World} {gb : Nat} {bl : List Bool} (h : BoolsAt w gb bl) {i : Nat} (hi : i < bl.length) : w.cell? ⟨gb, i, none⟩ = some (.bool (bl.getD i false)) ∧ w.frozen? ⟨gb, i, none⟩ = false := by
  obtain ⟨bs, h1, h2, h3⟩ := h
  exact ⟨(cellB h1).trans (h3 i hi), freeB h1⟩
theorem BoolsAt.kept {w w' : World} {gb : Nat} {bl : List Bool} (h : BoolsAt w gb bl) (hb : w'.heap[gb]? = w.heap[gb]?) : BoolsAt w' gb bl := by
  obtain ⟨bs, h1, h2⟩ := h
  exact ⟨bs, hb.trans h1, h2⟩
theorem BoolsAt.set {w : World} {gb : Nat} {bl : List Bool} (h : BoolsAt w gb bl) (i : Nat) (hi : i < bl.length) (x : Bool) : BoolsAt (w.setCell ⟨gb, i, none⟩ (.bool x)) gb (bl.set i x) := by
  obtain ⟨bs, h1, h2, h3⟩ := h
  refine ⟨_, setB h1 _, by simpa using h2, fun j hj => ?_⟩
  rw [List.length_set] at hj
  by_cases e : i = j
  · subst e
    simp [List.getD, hj, show i < bs.size by omega]
  · rw [Array.getElem?_setIfInBounds_ne e, h3 j hj]
    simp [List.getD, e]

set_option maxRecDepth 100000 in
set_option maxHeartbeats 2000000 in
theorem l4Next_any (v : Value) (lr : List Int) (gb cap : Nat) (bl : List Bool) (hl : bl.length = lr.length) (w : World) (h : IntsAt w v lr) (hb : BoolsAt w gb bl) :
    Calls Tryz.prog 112 #[v, .slice (some ⟨gb, 0, none⟩) lr.length cap] w fun e w' => ∃ k : Int, e = .returned (.int .i64 k) ∧ NextP lr bl lr.length k ∧ ∃ q, w' = w.drewN q := by
  obtain ⟨a, ca, rfl, _⟩ := h.form
  have H := Hid.intro h
  have HBo := Hid.intro hb
  have HL := Hid.intro hl
  clear h hb hl
  go_enter Tryz.func112, Tryz.ntmps112
  go_wp2_with fail
  go_loopw [5, 6] (fun s5 s6 W => ∃ (m nd : Nat) (k : Int), m ≤ lr.length ∧ s6 = .int .i64 m ∧ s5 = .int .i64 k ∧ Hid (NextP lr bl m k) ∧ W = w.drewN nd) (fun _ s6 _ => lr.length - (intOf s6).toNat)
  case atStart => exact ⟨0, 0, -1, Nat.zero_le _, rfl, rfl, NextP.zero lr bl, rfl⟩
  case round =>
    obtain ⟨m, nd, k, hm, rfl, rfl, HN, rfl⟩ := hrel
    by_cases hlt : m < lr.length
    · obtain ⟨cb, fb⟩ := HBo.out.get (i := m) (by rw [HL.out]; exact hlt)
      obtain ⟨b, off, cap', e', hc1, hc2, hbl, hx⟩ := H.out.get hlt
      simp only [Value.slice.injEq, true_and] at e'
      obtain ⟨rfl, rfl⟩ := e'
      unfold maxLen at hc2
      cases hbm : bl.getD m false with
      | true =>
        rw [hbm] at cb
        have HN2 := Hid.intro (HN.out.got hbm)
        clear hbm
        go_wp2_with fail
        go_quiet (fail)
        go_wp2
        go_roundw
        case rel => exact ⟨m + 1, nd + nq, k, by omega, by go_num, rfl, HN2, rfl⟩
        case measure => simp [intOf]; omega
      | false =>
        rw [hbm] at cb
        rcases HN.out with ⟨hk, h2⟩ | ⟨j, hk, h2, h3, h4⟩
        · have HN2 := Hid.intro (NextP.first (lr := lr) h2 hbm)
          subst hk
          clear hbm h2
          go_wp2_with fail
          go_quiet (fail)
          go_wp2
          go_roundw
          case rel => exact ⟨m + 1, nd + nq, m, by omega, by go_num, rfl, HN2, rfl⟩
          case measure => simp [intOf]; omega
        · obtain ⟨b2, off2, cap2, e2, _, _, _, hy⟩ := H.out.get (i := j) (by omega)
          simp only [Value.slice.injEq, Option.some.injEq, Addr.mk.injEq, and_true, true_and] at e2
          obtain ⟨⟨q1, q2⟩, q3⟩ := e2
          subst q1
          subst q2
          subst hk
          have hj0 : (0 : Int) ≤ (j : Int) := by omega
          have hj1 : (j : Int) < (lr.length : Int) := by omega
          have hj2 : ¬ (j : Int) < 0 := by omega
          have hj3 : decide ((j : Int) < 0) = false := decide_eq_false hj2
          by_cases hgt : lr.getD j 0 < lr.getD m 0
          · have HN2 := Hid.intro (NextP.more h4 hbm hgt)
            generalize lr.getD j 0 = y at hy hgt
            generalize lr.getD m 0 = x at hx hgt
            clear hbm h4 h3 q3
            go_wp2_with fail
            go_quiet (fail)
            go_wp2
            go_roundw
            case rel => exact ⟨m + 1, nd + nq, m, by omega, by go_num, rfl, HN2, rfl⟩
            case measure => simp [intOf]; omega
          · have HN2 := Hid.intro (NextP.less h2 h3 h4 hgt)
            generalize lr.getD j 0 = y at hy hgt
            generalize lr.getD m 0 = x at hx hgt
            clear hbm h4 h3 q3
            go_wp2_with fail
            go_quiet (fail)
            go_wp2
            go_roundw
            case rel => exact ⟨m + 1, nd + nq, j, by omega, by go_num, rfl, HN2, rfl⟩
            case measure => simp [intOf]; omega
    · obtain rfl : m = lr.length := by omega
      go_wp2
      go_ret
      exact ⟨k, rfl, HN.out, nd, rfl⟩

/-- the rows of l4Share: the weights, what each gets, what is left over of each, who has got one of the rest -/
structure Q4 (w W : World) (v5 v8 v9 : Value) (gb : Nat) (u lo lr : List Int) (bl : List Bool) : Prop where
  o5 : W.ownsRow w.heap.size 3 1 v5 u.length (u.map (Value.int .i64))
  o8 : W.ownsRow w.heap.size 3 1 v8 lo.length (lo.map (Value.int .i64))
  o9 : W.ownsRow w.heap.size 3 1 v9 lr.length (lr.map (Value.int .i64))
  bo : BoolsAt W gb bl
  hb : w.heap.size ≤ gb
  n58 : v5.ownBlock ≠ v8.ownBlock
  n59 : v5.ownBlock ≠ v9.ownBlock
  n89 : v8.ownBlock ≠ v9.ownBlock
  nb5 : v5.ownBlock ≠ some gb
  nb8 : v8.ownBlock ≠ some gb
  nb9 : v9.ownBlock ≠ some gb
  below : Below w.heap.size w W
theorem BoolsAt.lt {w : World} {gb : Nat} {bl : List Bool} (h : BoolsAt w gb bl) : gb < w.heap.size := by
  obtain ⟨bs, h1, _⟩ := h
  exact (Array.getElem?_eq_some_iff.1 h1).1
theorem Q4.alloc {w W : World} {v5 v8 v9 : Value} {gb : Nat} {u lo lr : List Int} {bl : List Bool} (h : Q4 w W v5 v8 v9 gb u lo lr bl) (o : Obj) : Q4 w (W.alloc o) v5 v8 v9 gb u lo lr bl :=
  { h with o5 := h.o5.alloc o, o8 := h.o8.alloc o, o9 := h.o9.alloc o, bo := h.bo.kept (Below.heap_alloc _ _ _ h.bo.lt), below := h.below.alloc h.below.size o }
theorem Q4.drewN {w W : World} {v5 v8 v9 : Value} {gb : Nat} {u lo lr : List Int} {bl : List Bool} (h : Q4 w W v5 v8 v9 gb u lo lr bl) (n : Nat) : Q4 w (W.drewN n) v5 v8 v9 gb u lo lr bl :=
  { h with o5 := h.o5, o8 := h.o8, o9 := h.o9, bo := h.bo.kept rfl, below := k_drewN h.below n }
theorem own_some {w : World} {v : Value} {B n : Nat} {e : TypeId} {xs : List Value} (h : w.ownsRow B e 1 v n xs) (k : Nat) (hk : w.heap.size ≤ k) : v.ownBlock ≠ some k := fun e => by have := (h.lt k e).2; omega
theorem Q4.app8 {w W W' : World} {v5 v8 v9 v' : Value} {gb : Nat} {u lo lr : List Int} {bl : List Bool} (h : Q4 w W v5 v8 v9 gb u lo lr bl) {x : Int}
    (ho : W'.ownsRow w.heap.size 3 1 v' (lo.length + 1) (lo.map (Value.int .i64) ++ [.int .i64 x])) (hg : W.grownBy W' v8.ownBlock) (hat : v'.ownBlock = v8.ownBlock ∨ v'.ownBlock = some W.heap.size) : Q4 w W' v5 v' v9 gb u (lo ++ [x]) lr bl where
  o5 := h.o5.kept hg (.inr h.n58)
  o8 := by rw [List.length_append, List.map_append]; exact ho
  o9 := h.o9.kept hg (.inr (Ne.symm h.n89))
  bo := h.bo.kept (hg.block gb h.bo.lt (Ne.symm h.nb8))
  hb := h.hb
  n58 := by rcases hat with e | e <;> rw [e]; exact h.n58; exact own_some h.o5 _ (Nat.le_refl _)
  n59 := h.n59
  n89 := by rcases hat with e | e <;> rw [e]; exact h.n89; exact (own_some h.o9 _ (Nat.le_refl _)).symm
  nb5 := h.nb5
  nb8 := by rcases hat with e | e <;> rw [e]; exact h.nb8; exact fun e => by have := h.bo.lt; simp at e; omega
  nb9 := h.nb9
  below := h.below.grown hg h.below.size (fun b hb => (h.o8.lt b hb).1)
theorem Q4.app9 {w W W' : World} {v5 v8 v9 v' : Value} {gb : Nat} {u lo lr : List Int} {bl : List Bool} (h : Q4 w W v5 v8 v9 gb u lo lr bl) {x : Int}
    (ho : W'.ownsRow w.heap.size 3 1 v' (lr.length + 1) (lr.map (Value.int .i64) ++ [.int .i64 x])) (hg : W.grownBy W' v9.ownBlock) (hat : v'.ownBlock = v9.ownBlock ∨ v'.ownBlock = some W.heap.size) : Q4 w W' v5 v8 v' gb u lo (lr ++ [x]) bl where
  o5 := h.o5.kept hg (.inr h.n59)
  o8 := h.o8.kept hg (.inr h.n89)
  o9 := by rw [List.length_append, List.map_append]; exact ho
  bo := h.bo.kept (hg.block gb h.bo.lt (Ne.symm h.nb9))
  hb := h.hb
  n58 := h.n58
  n59 := by rcases hat with e | e <;> rw [e]; exact h.n59; exact own_some h.o5 _ (Nat.le_refl _)
  n89 := by rcases hat with e | e <;> rw [e]; exact h.n89; exact own_some h.o8 _ (Nat.le_refl _)
  nb5 := h.nb5
  nb8 := h.nb8
  nb9 := by rcases hat with e | e <;> rw [e]; exact h.nb9; exact fun e => by have := h.bo.lt; simp at e; omega
  below := h.below.grown hg h.below.size (fun b hb => (h.o9.lt b hb).1)
theorem grow_set (W : World) (p : Addr) (v : Value) : W.grownBy (W.setCell p v) (some p.block) :=
  ⟨rfl, rfl, rfl, by simp [World.setCell], fun k _ hne => Below.heap_setCell _ _ _ _ (fun e => hne (by rw [e]))⟩
theorem Q4.set8 {w W : World} {v5 v9 : Value} {g8 n c gb : Nat} {u lo lr : List Int} {bl : List Bool} (h : Q4 w W v5 (.slice (some ⟨g8, 0, none⟩) n c) v9 gb u lo lr bl) (i : Nat) (hi : i < lo.length) (x : Int) :
    Q4 w (W.setCell ⟨g8, i, none⟩ (.int .i64 x)) v5 (.slice (some ⟨g8, 0, none⟩) n c) v9 gb u (lo.set i x) lr bl where
  o5 := h.o5.kept (grow_set W ⟨g8, i, none⟩ (.int .i64 x)) (.inr h.n58)
  o8 := ((RowI.of_owns h.o8).set hi x).owns
  o9 := h.o9.kept (grow_set W ⟨g8, i, none⟩ (.int .i64 x)) (.inr (Ne.symm h.n89))
  bo := h.bo.kept ((grow_set W ⟨g8, i, none⟩ (.int .i64 x)).block gb h.bo.lt (Ne.symm h.nb8))
  hb := h.hb
  n58 := h.n58
  n59 := h.n59
  n89 := h.n89
  nb5 := h.nb5
  nb8 := h.nb8
  nb9 := h.nb9
  below := h.below.setCell (h.o8.lt g8 rfl).1 _
theorem Q4.setb {w W : World} {v5 v8 v9 : Value} {gb : Nat} {u lo lr : List Int} {bl : List Bool} (h : Q4 w W v5 v8 v9 gb u lo lr bl) (i : Nat) (hi : i < bl.length) (x : Bool) :
    Q4 w (W.setCell ⟨gb, i, none⟩ (.bool x)) v5 v8 v9 gb u lo lr (bl.set i x) where
  o5 := h.o5.kept (grow_set W ⟨gb, i, none⟩ (.bool x)) (.inr h.nb5)
  o8 := h.o8.kept (grow_set W ⟨gb, i, none⟩ (.bool x)) (.inr h.nb8)
  o9 := h.o9.kept (grow_set W ⟨gb, i, none⟩ (.bool x)) (.inr h.nb9)
  bo := h.bo.set i hi x
  hb := h.hb
  n58 := h.n58
  n59 := h.n59
  n89 := h.n89
  nb5 := h.nb5
  nb8 := h.nb8
  nb9 := h.nb9
  below := h.below.setCell h.hb _
def newBo (n : Nat) : Array Value := madeCells (Value.bool false).cells (n * 1)
theorem infoBo : (Tryz.prog.info? 4).map (fun i => (i.zero, i.size, i.bytes)) = some (some (Value.bool false), 1, 1) := by kernel_rfl
theorem makeBo (n : Nat) (hn : n ≤ 1048576) (u : World) : (Instr.makeSlice 144 (.int .i64 (n : Int)) (.int .i64 (n : Int))).run Tryz.prog u = .ok (.slice (some ⟨u.heap.size, 0, none⟩) n n) (u.alloc (.cells (newBo n) 4)) := by
  obtain ⟨i0, hi, hz0, hz1, hz2⟩ := info_parts infoBo
  have h := run_make (P := Tryz.prog) u 144 4 i0 _ Tryz.underlying144 hi hz0 .i64 .i64 (n : Int) (n : Int) (by omega) (Int.le_refl _) (by rw [hz2]; omega) (by omega)
  rw [hz1, Int.toNat_natCast] at h
  exact h
theorem bools_new (w : World) (n : Nat) : BoolsAt (w.alloc (.cells (newBo n) 4)) w.heap.size (List.replicate n false) := by
  refine ⟨newBo n, newestB _ _, by rw [newBo, size_madeCells]; simp, fun i hi => ?_⟩
  rw [List.length_replicate] at hi
  unfold newBo
  rw [Nat.mul_one, ← Array.getElem?_toList, show (Value.bool false).cells = #[Value.bool false] from rfl, toList_madeCells_one]
  simp [List.getD, hi]
theorem Q4.start {w W : World} {g5 n c5 : Nat} {u : List Int} (h5 : W.ownsRow w.heap.size 3 1 (.slice (some ⟨g5, 0, none⟩) n c5) u.length (u.map (Value.int .i64))) (hb : Below w.heap.size w W) (m : Nat) :
    Q4 w (((W.alloc (.cells #[] 3)).alloc (.cells #[] 3)).alloc (.cells (newBo m) 4)) (.slice (some ⟨g5, 0, none⟩) n c5) (.slice (some ⟨W.heap.size, 0, none⟩) 0 0) (.slice (some ⟨W.heap.size + 1, 0, none⟩) 0 0) (W.heap.size + 2) u [] [] (List.replicate m false) where
  o5 := ((h5.alloc _).alloc _).alloc _
  o8 := ((World.ownsRow_made (base := w.heap.size) (e := 3) (size := 1) W #[] 0 hb.size (Nat.zero_le _) rfl).alloc _).alloc _
  o9 := by
    have := World.ownsRow_made (base := w.heap.size) (e := 3) (size := 1) (W.alloc (.cells #[] 3)) #[] 0 (by have := hb.size; simp; omega) (Nat.zero_le _) rfl
    have e : (W.alloc (.cells #[] 3)).heap.size = W.heap.size + 1 := by simp
    rw [e] at this
    exact this.alloc _
  bo := by
    have := bools_new ((W.alloc (.cells #[] 3)).alloc (.cells #[] 3)) m
    have e : ((W.alloc (.cells #[] 3)).alloc (.cells #[] 3)).heap.size = W.heap.size + 2 := by simp
    rw [e] at this
    exact this
  hb := by have := hb.size; omega
  n58 := own_some h5 _ (Nat.le_refl _)
  n59 := own_some h5 (W.heap.size + 1) (by omega)
  n89 := fun e => by simp [Value.ownBlock] at e
  nb5 := own_some h5 (W.heap.size + 2) (by omega)
  nb8 := fun e => by simp [Value.ownBlock] at e
  nb9 := fun e => by simp [Value.ownBlock] at e
  below := k_alloc (k_alloc (k_alloc hb _) _) _
end Go.Proofs.YtfkkhfiiokhnaaeGreat
