/-
  PROVED HERE: what the program's acrossAll and WidCell answer of any list of numbers in memory and any cell; nothing that was in memory is turned. Also: where columns begin and end, and how wide a cell is, at small numbers. Also: the model's grid of a drawn table that is ok; a cell's columns together. Also: the model's ColWish at a drawn table is the list wishL, in memory of its own; nothing that was in memory is turned. Also: a code that lies in memory stays where it is; a table abides five stores ahead of it: for the texts that draw a table. Also: DrawColWish draws a table; nothing that was in memory is turned. Also: what the laws' own pwInts answers of two lists of numbers in memory that are the same; nothing that was in memory is turned. Also: the laws' own pwOk says true; nothing in memory is turned. Also: the laws' own pwText is the text of a cell at its place in a drawn table; nothing that was in memory is turned.
-/
import Derived.Test.YtmdghonefdmihaeB40
import Derived.Laws.AppendOwn
import Derived.Deep.RegionWith
import Derived.Deep.QuietTactic
import Derived.BigQuiet
import Derived.Deep.DeepCutAuto
namespace Go.Proofs.Ytmdghonefdmihae
open Go.RowKit

/-- whether a column is of a cell -/
def inCell (x : GC) (k : Nat) : Bool := amongB (k : Int) x.col x.cols
def cellV (l : List Int) (gap : Int) (x : GC) : Int := acrV (ownL l (inCell x) l.length) gap

theorem infoIc : (Try.prog.info? 3).map (fun i => (i.zero, i.size, i.bytes)) = some (some (Value.int .i64 0), 1, 8) := by kernel_rfl
/-- what an append of one number leaves -/
theorem app_keeps {w w3 w4 : World} {B n : Nat} {xs : List Value} {x : Int} {o : Value} (hB : w.heap.size ≤ B) (hO : w3.ownsRow B 3 1 o n xs) (K : Below w.heap.size w w3)
    (hg : (w3.alloc (.cells #[.int .i64 x] 3)).grownBy w4 o.ownBlock) : Below w.heap.size w w4 ∧ ∀ g, g < B → g < w3.heap.size → w4.heap[g]? = w3.heap[g]? := by
  have hA := k_alloc K (.cells #[.int .i64 x] 3)
  refine ⟨⟨hg.os.trans hA.os, hg.tape.trans hA.tape, hg.output.trans hA.output, Nat.le_trans hA.size hg.size, fun k hk => (hg.block k (Nat.lt_of_lt_of_le hk hA.size) (fun hb => ?_)).trans (hA.block k hk)⟩, fun k hk hl => (hg.block k (by simp; omega) (fun hb => ?_)).trans (Below.heap_alloc _ _ _ hl)⟩
  · have := (hO.lt k hb.symm).1
    omega
  · have := (hO.lt k hb.symm).1
    omega
theorem ownL_yes {l : List Int} {p : Nat → Bool} {k : Nat} (h : p k = true) : ownL l p (k + 1) = ownL l p k ++ [l.getD k 0] := by rw [ownL, if_pos h]
theorem ownL_no {l : List Int} {p : Nat → Bool} {k : Nat} (h : p k = false) : ownL l p (k + 1) = ownL l p k := by rw [ownL, if_neg (by rw [h]; simp)]

set_option maxRecDepth 100000 in
set_option maxHeartbeats 1000000 in
theorem implWidCell (v : Value) (l : List Int) (hl : l.length ≤ 1048576) (gap : Int) (x : GC) (hx : GOk x) (w : World) (h : IntsAt w v l) :
    Calls Try.prog 13 #[v, .int .i64 gap, .agg #[.int .i64 x.row, .int .i64 x.col, .int .i64 x.rows, .int .i64 x.cols, .int .i64 x.ins]] w fun e w' => e = .returned (.int .i64 (cellV l gap x)) ∧ Below w.heap.size w w' := by
  obtain ⟨i0, hi, hz0, hz1, hz2⟩ := info_parts infoIc
  obtain ⟨a, cap, rfl, hlen⟩ := h.form
  obtain ⟨_, b1, _, b3, _⟩ := hx
  have K0 := k_alloc (Below.refl w.heap.size w) (.cells #[.int .i64 x.row, .int .i64 x.col, .int .i64 x.rows, .int .i64 x.cols, .int .i64 x.ins] 39)
  have X0 := newestB w (.cells #[.int .i64 x.row, .int .i64 x.col, .int .i64 x.rows, .int .i64 x.cols, .int .i64 x.ins] 39)
  have H := Hid.intro h
  have HR := Hid.intro (fun (k : Nat) (hk : k ≤ 1048576) => reaches_any (k : Int) x.col x.cols (by unfold I64; omega) b1 b3)
  clear h b1 b3
  go_enter Try.func13, Try.ntmps13
  go_wp2_with fail
  go_loopw [7, 12] (fun o i W => ∃ k : Nat, i = .int .i64 k ∧ k ≤ l.length ∧ Hid (W.ownsRow (w.heap.size + 1) 3 1 o (ownL l (inCell x) k).length ((ownL l (inCell x) k).map (Value.int .i64))) ∧ Hid (Below w.heap.size w W) ∧ Hid (W.heap[w.heap.size]? = some (.cells #[.int .i64 x.row, .int .i64 x.col, .int .i64 x.rows, .int .i64 x.cols, .int .i64 x.ins] 39))) (fun _ i _ => l.length - (intOf i).toNat)
  case atStart => exact ⟨0, rfl, Nat.zero_le _, ⟨by simp [ownL], .inl ⟨rfl, rfl⟩⟩, K0, X0⟩
  case round =>
    obtain ⟨k, rfl, hk, HO, HB, HX⟩ := hrel
    have c1 : wr.cell? ⟨w.heap.size, 1, none⟩ = some (.int .i64 x.col) := cellB HX.out
    have c3 : wr.cell? ⟨w.heap.size, 3, none⟩ = some (.int .i64 x.cols) := cellB HX.out
    by_cases hlt : k < l.length
    · obtain ⟨b, off, cap', e', hc1, hc2, hbl, hy⟩ := (H.out.kept HB.out).get hlt
      simp only [Value.slice.injEq, true_and] at e'
      obtain ⟨rfl, rfl⟩ := e'
      unfold maxLen at hc2
      have KR := Hid.intro (HR.out k (by omega) wr)
      have hol := ownL_len l (inCell x) k
      cases hin : inCell x k with
      | false =>
        have HL := Hid.intro (ownL_no (l := l) hin)
        have hin' : amongB (k : Int) x.col x.cols = false := hin
        rw [hin'] at KR
        clear hin hin'
        generalize l.getD k 0 = y at hy
        go_wp2_with fail
        refine KR.out.mono ?_
        rintro e w1 ⟨rfl, rfl⟩
        go_wp2
        go_roundw
        case rel => exact ⟨k + 1, by go_num, by omega, by rw [HL.out]; exact HO, HB, HX⟩
        case measure => simp [intOf]; omega
      | true =>
        have HL := Hid.intro (ownL_yes (l := l) hin)
        have hin' : amongB (k : Int) x.col x.cols = true := hin
        rw [hin'] at KR
        clear hin hin'
        generalize l.getD k 0 = y at hy HL
        generalize ownL l (inCell x) k = xs at HO HL hol
        go_wp2_with fail
        refine KR.out.mono ?_
        rintro e w1 ⟨rfl, rfl⟩
        have hO4 := HO.out
        have hsz : w.heap.size < w1.heap.size := (Array.getElem?_eq_some_iff.1 HX.out).1
        go_wp2_with (at_builtin; refine wpList_append_own _ rfl _ _ 28 rfl (w.heap.size + 1) 3 i0 (.int .i64 0) 1 8 Try.underlying28 hi hz0 hz1 hz2 rfl (by decide) _ _ _ rfl (hO4.alloc _) ⟨w1.heap.size, 0, none⟩ 1 1 [.int .i64 y] rfl rfl ?c1 ?c2 ?c3 ?c4 ?c5 ?_)
        case c1 =>
          intro i u hi
          match i, hi with
          | 0, hi => simp at hi; subst hi; simp [Addr.add]
        case c2 => intro u hu; simp at hu; subst hu; rfl
        case c3 => unfold maxLen; omega
        case c4 => omega
        case c5 => simp; omega
        intro v' w5 hown' hgrow' _
        obtain ⟨hB5, hX5⟩ := app_keeps (Nat.le_succ _) hO4 HB.out hgrow'
        have HB5 := Hid.intro hB5
        have HX5 := Hid.intro ((hX5 w.heap.size (Nat.lt_succ_self _) (Array.getElem?_eq_some_iff.1 HX.out).1).trans HX.out)
        have HO5 : Hid (w5.ownsRow (w.heap.size + 1) 3 1 v' (xs ++ [y]).length ((xs ++ [y]).map (Value.int .i64))) := by rw [List.length_append, List.map_append]; exact hown'
        obtain ⟨g', cap'', rfl⟩ := Joins.ownsRow_form hown' (by omega)
        clear hown' hgrow' hO4 hB5 hX5 HO HB HX
        go_wp2
        go_roundw
        case rel => exact ⟨k + 1, by go_num, by omega, by rw [HL.out]; exact HO5, HB5, HX5⟩
        case measure => simp [intOf]; omega
    · obtain rfl : k = l.length := by omega
      have hI := (RowI.of_owns HO.out).at
      obtain ⟨aa, cc, rfl, _⟩ := hI.form
      have KA := Hid.intro (implacrossAll _ _ gap wr hI)
      have HV : Hid (cellV l gap x = acrV (ownL l (inCell x) l.length) gap) := rfl
      clear hI
      go_wp2_with fail
      refine KA.out.mono ?_
      rintro e w1 ⟨rfl, rfl⟩
      go_wp2
      go_ret
      exact ⟨rfl, HB.out⟩
end Go.Proofs.Ytmdghonefdmihae
namespace Go.Proofs.Ytmdghonefdmihae
open Go.RowKit

theorem sumS {l : List Int} (h : ∀ x ∈ l, 0 ≤ x ∧ x ≤ 20) : ∀ k, k ≤ l.length → 0 ≤ sumTo l k ∧ sumTo l k ≤ 20 * (k : Int)
  | 0, _ => by simp [sumTo]
  | k + 1, hk => by
    have h1 := sumS h k (by omega)
    have h2 := h l[k] (List.getElem_mem (by omega))
    have e : l.getD k 0 = l[k] := by simp [List.getD, show k < l.length by omega]
    rw [sumTo_succ (by omega), e]
    omega
theorem gapS {gap : Int} (h : -1 ≤ gap ∧ gap ≤ 4) {k : Nat} (hk : k ≤ 6) : -6 ≤ gap * (k : Int) ∧ gap * (k : Int) ≤ 24 := by
  rcases (by omega : gap = -1 ∨ gap = 0 ∨ gap = 1 ∨ gap = 2 ∨ gap = 3 ∨ gap = 4) with rfl | rfl | rfl | rfl | rfl | rfl <;> omega
theorem atS {l : List Int} (h : ∀ x ∈ l, 0 ≤ x ∧ x ≤ 20) (hl : l.length ≤ 6) {gap : Int} (hg : -1 ≤ gap ∧ gap ≤ 4) {k : Nat} (hk : k ≤ l.length) : atV l gap k = sumTo l k + gap * (k : Int) ∧ -6 ≤ atV l gap k ∧ atV l gap k ≤ 200 := by
  have h1 := sumS h k hk
  have h2 := gapS hg (show k ≤ 6 by omega)
  have e : atV l gap k = sumTo l k + gap * (k : Int) := by
    rw [atV, aheadN_nat l hk, W_small (by omega)]
  rw [e]
  omega
theorem getS {l : List Int} (h : ∀ x ∈ l, 0 ≤ x ∧ x ≤ 20) {k : Nat} (hk : k < l.length) : 0 ≤ l.getD k 0 ∧ l.getD k 0 ≤ 20 := by
  have e : l.getD k 0 = l[k] := by simp [List.getD, hk]
  rw [e]; exact h _ (List.getElem_mem hk)
theorem endS {l : List Int} (h : ∀ x ∈ l, 0 ≤ x ∧ x ≤ 20) (hl : l.length ≤ 6) {gap : Int} (hg : -1 ≤ gap ∧ gap ≤ 4) {k : Nat} (hk : k < l.length) : endV l gap k = sumTo l (k + 1) + gap * (k : Int) ∧ -6 ≤ endV l gap k ∧ endV l gap k ≤ 300 := by
  have h1 := atS h hl hg (show k ≤ l.length by omega)
  have h2 := getS h hk
  have e : endV l gap k = atV l gap k + l.getD k 0 := by
    rw [endV, if_pos (inB_true (by omega) (by omega)), Int.toNat_natCast, W_small (by omega)]
  rw [e, sumTo_succ hk]
  omega
theorem ownL_none {l : List Int} {p : Nat → Bool} : ∀ k, (∀ i, i < k → p i = false) → ownL l p k = []
  | 0, _ => rfl
  | k + 1, h => by rw [ownL, if_neg (by rw [h k (by omega)]; simp)]; exact ownL_none k (fun i hi => h i (by omega))
theorem cellV_none {l : List Int} {gap : Int} {x : GC} (h : x.cols ≤ 0) : cellV l gap x = 0 := by
  unfold cellV
  rw [ownL_none _ (fun i _ => by simp [inCell, amongB]; omega)]
  rfl
theorem own_span {l : List Int} {x : GC} {c m : Nat} (hc : x.col = c) (hm : x.cols = m) : ∀ k, k ≤ l.length → (ownL l (inCell x) k).length = min m (k - c) ∧ (ownL l (inCell x) k).sum = sumTo l (min k (c + m)) - sumTo l (min k c)
  | 0, _ => by simp [ownL, sumTo]
  | k + 1, hk => by
    obtain ⟨h1, h2⟩ := own_span (l := l) hc hm k (by omega)
    by_cases hin : c ≤ k ∧ k < c + m
    · have e : inCell x k = true := by simp [inCell, amongB, hc, hm]; omega
      rw [ownL_yes e, List.length_append, List.sum_append, h1, h2]
      have e1 : min (k + 1) (c + m) = k + 1 := by omega
      have e2 : min k (c + m) = k := by omega
      have e3 : min (k + 1) c = c := by omega
      have e4 : min k c = c := by omega
      rw [e1, e2, e3, e4, sumTo_succ (by omega)]
      simp
      omega
    · have e : inCell x k = false := by simp [inCell, amongB, hc, hm]; omega
      rw [ownL_no e, h1, h2]
      have e1 : min (k + 1) (c + m) = min k (c + m) ∨ min (k + 1) c = k + 1 := by omega
      by_cases hkc : k < c
      · have a1 : min (k + 1) (c + m) = k + 1 := by omega
        have a2 : min k (c + m) = k := by omega
        have a3 : min (k + 1) c = k + 1 := by omega
        have a4 : min k c = k := by omega
        rw [a1, a2, a3, a4]
        omega
      · have a1 : min (k + 1) (c + m) = min k (c + m) := by omega
        have a3 : min (k + 1) c = min k c := by omega
        rw [a1, a3]
        omega
theorem cellV_small {l : List Int} (h : ∀ x ∈ l, 0 ≤ x ∧ x ≤ 20) (hl : l.length ≤ 6) {gap : Int} (hg : -1 ≤ gap ∧ gap ≤ 4) {x : GC} {c m : Nat} (hc : x.col = c) (hm : x.cols = m) (h1 : 1 ≤ m) (h2 : c + m ≤ l.length) :
    cellV l gap x = endV l gap ((c : Int) + (m : Int) - 1) - atV l gap c ∧ (-9 ≤ atV l gap c ∧ atV l gap c ≤ 300) ∧ -9 ≤ endV l gap ((c : Int) + (m : Int) - 1) ∧ endV l gap ((c : Int) + (m : Int) - 1) ≤ 300 := by
  have ek : (c : Int) + (m : Int) - 1 = ((c + m - 1 : Nat) : Int) := by omega
  rw [ek]
  have hE := endS h hl hg (show c + m - 1 < l.length by omega)
  have hA := atS h hl hg (show c ≤ l.length by omega)
  obtain ⟨o1, o2⟩ := own_span (l := l) hc hm l.length (Nat.le_refl _)
  rw [show min m (l.length - c) = m by omega] at o1
  rw [show min l.length (c + m) = c + m by omega, show min l.length c = c by omega] at o2
  have hs1 := sumS h (c + m) h2
  have hs2 := sumS h c (by omega)
  have hgm := gapS hg (show m - 1 ≤ 6 by omega)
  rw [show ((m - 1 : Nat) : Int) = (m : Int) - 1 by omega] at hgm
  have e : cellV l gap x = sumTo l (c + m) - sumTo l c + gap * ((m : Int) - 1) := by
    unfold cellV
    rw [acrV_cons (by rw [o1]; omega), o1, o2, W_small (by omega)]
  refine ⟨?_, by omega, by omega⟩
  rw [e, hE.1, hA.1, show c + m - 1 + 1 = c + m by omega, show ((c + m - 1 : Nat) : Int) = (c : Int) + ((m : Int) - 1) by omega, Int.mul_add]
  omega
end Go.Proofs.Ytmdghonefdmihae
namespace Go.Proofs.Ytmdghonefdmihae
open Go.RowKit

theorem row_lit0 (w : World) (B : Nat) (hB : B ≤ w.heap.size) : RowI (w.alloc (.cells #[] 3)) B (w.alloc (.cells #[] 3)).heap.size (.slice (some ⟨w.heap.size, 0, none⟩) 0 0) [] :=
  .inr ⟨w.heap.size, 0, #[], rfl, hB, by simp, newestB _ _, Nat.le_refl _, Nat.zero_le _, rfl, fun i hi => absurd hi (Nat.not_lt_zero _)⟩
theorem leastL_no {t : T} (h : tblB t = false) : leastL t = [] := List.eq_nil_of_length_eq_zero (by rw [leastL_len, colN, gOf_no h]; rfl)
theorem l3Of_g (ac ar : Option Addr) (cc cr : Nat) (t : T) (hD : Drawn t) (hok : tblB t = true) (w : World) {z : Nat} (hr : RowsAt w z (.slice ar t.rows.length cr) t.rows) :
    Calls Try.prog 28 #[.agg #[.slice ac t.cols.length cc, .int .i64 t.head, .int .i64 t.foot, .slice ar t.rows.length cr, .int .i64 t.gap]] w fun e w' => ∃ ag cg, e = .returned (.agg #[.int .i64 (gOf t).rows, .int .i64 (gOf t).cols, .slice ag (gOf t).cells.length cg]) ∧ GsAt w' w.heap.size (.slice ag (gOf t).cells.length cg) (gOf t).cells ∧ Below w.heap.size w w' := by
  refine (l3Of_any ac ar cc cr t (low_of hok hD) w hr).mono ?_
  rintro e w' ⟨vg, rfl, hO, hb⟩
  have hgk := gOf_gok hD
  rw [gOf_ok hok] at hgk ⊢
  obtain ⟨ag, cg, rfl⟩ := own_slice hO
  exact ⟨ag, cg, rfl, hO.at hgk, hb⟩
/-- a cell's columns together -/
theorem cellV_has {t : T} {C : Nat} {x : GC} (hx : Cel t C x) {l : List Int} (hb : UpB l 50000) (hl : l.length = C) : cellV l t.gap x = hasV l t.gap x := by
  obtain ⟨rn, jn, cn, mn, e1, e2, e3, e4, h1, h2, h3, h4, h5⟩ := hx.ex
  obtain ⟨o1, o2⟩ := own_span (l := l) e3 e4 l.length (Nat.le_refl _)
  have hg := hx.gap
  have hm : min l.length (cn + mn) = cn + mn := by omega
  have hm2 : min l.length cn = cn := by omega
  have hm3 : min mn (l.length - cn) = mn := by omega
  rw [hm, hm2] at o2
  rw [hm3] at o1
  have hss : (subL l cn mn).sum = sumTo l (cn + mn) - sumTo l cn := by
    unfold subL sumTo
    rw [List.take_add, List.sum_append]
    omega
  have hs := sum_upB (fun y (hy : y ∈ subL l cn mn) => hb.mem (subL_mem hy))
  rw [subL_len (by omega)] at hs
  have hgm := gap_facts hg (m := mn - 1) (by omega)
  rw [show ((mn - 1 : Nat) : Int) = (mn : Int) - 1 by omega] at hgm
  unfold cellV hasV
  rw [acrV_cons (by omega), o1, o2, e3, e4, Int.toNat_natCast, Int.toNat_natCast, hss]
  rw [hss] at hs
  exact W_small (by omega)
end Go.Proofs.Ytmdghonefdmihae
namespace Go.Proofs.Ytmdghonefdmihae
open Go.RowKit

theorem wishL_no {t : T} (h : tblB t = false) : wishL t = [] := List.eq_nil_of_length_eq_zero (by rw [wishL_len, colN, gOf_no h]; rfl)
set_option maxRecDepth 100000 in
set_option maxHeartbeats 1000000 in
theorem specColWish (ac ar : Option Addr) (cc cr : Nat) (t : T) (hD : Drawn t) (w : World) {z : Nat} (hc : ColsAt w z (.slice ac t.cols.length cc) t.cols) (hr : RowsAt w z (.slice ar t.rows.length cr) t.rows) :
    Calls Try.prog 9 #[.agg #[.slice ac t.cols.length cc, .int .i64 t.head, .int .i64 t.foot, .slice ar t.rows.length cr, .int .i64 t.gap]] w fun e w' => ∃ v, e = .returned v ∧ RowI w' w.heap.size w'.heap.size v (wishL t) ∧ Below w.heap.size w w' := by
  have K0 := k_alloc (Below.refl w.heap.size w) (.cells #[.slice ac t.cols.length cc, .int .i64 t.head, .int .i64 t.foot, .slice ar t.rows.length cr, .int .i64 t.gap] 26)
  have X0 := newestB w (.cells #[.slice ac t.cols.length cc, .int .i64 t.head, .int .i64 t.foot, .slice ar t.rows.length cr, .int .i64 t.gap] 26)
  obtain ⟨W0, hW0⟩ : ∃ W0, w.alloc (.cells #[.slice ac t.cols.length cc, .int .i64 t.head, .int .i64 t.foot, .slice ar t.rows.length cr, .int .i64 t.gap] 26) = W0 := ⟨_, rfl⟩
  rw [hW0] at K0 X0
  have HP : Hid (Below w.heap.size w W0 ∧ TA W0 z ac ar cc cr t ∧ W0.heap[w.heap.size]? = some (.cells #[.slice ac t.cols.length cc, .int .i64 t.head, .int .i64 t.foot, .slice ar t.rows.length cr, .int .i64 t.gap] 26)) := ⟨K0, ⟨hc.kept K0, hr.kept K0⟩, X0⟩
  have KO := Hid.intro (specTblOk ac ar cc cr t W0 HP.out.2.1.1 HP.out.2.1.2)
  obtain ⟨b0, b1, b2, b3, b4⟩ := fiveO X0
  clear hc hr K0 X0
  cases htk : tblB t with
  | false =>
    rw [htk] at KO
    have HE := Hid.intro (wishL_no htk)
    clear htk
    go_enter Try.func9, Try.ntmps9
    go_upto_region 1 with fail
    clear hW0
    go_wp2_with fail
    refine KO.out.mono ?_
    rintro e w1 ⟨rfl, hb1⟩
    have HK1 := Hid.intro (k_trans HP.out.1 hb1)
    clear hb1 KO b0 b1 b2 b3 b4 HP
    go_wp2
    go_ret
    exact ⟨_, rfl, by rw [HE.out]; exact row_lit0 _ _ HK1.out.size, k_alloc HK1.out _⟩
  | true =>
    rw [htk] at KO
    have K3 := Hid.intro (fun W h => l3Of_g ac ar cc cr t hD htk W (z := z) h)
    have KL := Hid.intro (fun ag cg W zg h1 h2 h3 => specl5Wish ac ar cc cr t hD ag cg W (z := z) (zg := zg) h1 h2 h3 htk)
    clear htk hD
    go_enter Try.func9, Try.ntmps9
    go_upto_region 1 with fail
    clear hW0
    go_wp2_with fail
    refine KO.out.mono ?_
    rintro e w1 ⟨rfl, hb1⟩
    have HP1 : Hid (Below w.heap.size w w1 ∧ TA w1 z ac ar cc cr t ∧ w1.heap[w.heap.size]? = some (.cells #[.slice ac t.cols.length cc, .int .i64 t.head, .int .i64 t.foot, .slice ar t.rows.length cr, .int .i64 t.gap] 26)) := ⟨k_trans HP.out.1 hb1, HP.out.2.1.kept hb1, (hb1.block _ (Array.getElem?_eq_some_iff.1 HP.out.2.2).1).trans HP.out.2.2⟩
    clear hb1 KO b0 b1 b2 b3 b4 HP
    go_upto_region 3 with fail
    obtain ⟨b0, b1, b2, b3, b4⟩ := fiveO HP1.out.2.2
    have ht1 := (Array.getElem?_eq_some_iff.1 HP1.out.2.2).1
    have HTd : Hid (TA w1.drew z ac ar cc cr t) := HP1.out.2.1.kept (k_drew (Below.refl _ _))
    have HBd := Hid.intro (k_drew HP1.out.1)
    have HXd : Hid (w1.drew.heap[w.heap.size]? = some (.cells #[.slice ac t.cols.length cc, .int .i64 t.head, .int .i64 t.foot, .slice ar t.rows.length cr, .int .i64 t.gap] 26)) := HP1.out.2.2
    go_region_with (first
      | (go_at_call 28; refine (K3.out _ HTd.out.2).mono ?_; rintro e w2 ⟨ag, cg, rfl, hG2, hb2⟩; have HG2 := Hid.intro hG2; have HT2 := Hid.intro (HTd.out.kept hb2); have HB2 := Hid.intro (k_trans HBd.out hb2); have HX2 := Hid.intro ((hb2.block _ (Array.getElem?_eq_some_iff.1 HXd.out).1).trans HXd.out); clear hG2 hb2; obtain ⟨p0, p1, p2, p3, p4⟩ := fiveO HX2.out; have ht2 := (Array.getElem?_eq_some_iff.1 HX2.out).1)
      | (go_at_call 27; refine (KL.out ag cg _ _ HT2.out.1 HT2.out.2 HG2.out).mono ?_; rintro e w3 ⟨v3, rfl, hr3, hb3⟩; have R3 := Hid.intro (hr3.base (B' := w.heap.size) HB2.out.size (Nat.le_refl _)); have HB3 := Hid.intro (k_trans HB2.out hb3); clear hr3 hb3))
    all_goals
      go_wp2
      go_ret
      exact ⟨_, rfl, R3.out, HB3.out⟩
end Go.Proofs.Ytmdghonefdmihae
namespace Go.Proofs.Ytmdghonefdmihae
open Go.RowKit

theorem IsCode.kept {w w' : World} {a : Option Addr} {len cap : Nat} (h : IsCode w a len cap) (hb : Below w.heap.size w w') : IsCode w' a len cap := by
  obtain ⟨h1, h2, hc⟩ := h
  refine ⟨h1, h2, fun i hi => ?_⟩
  obtain ⟨b, off, z, e, l, c, z0, z1⟩ := hc i hi
  exact ⟨b, off, z, e, Nat.lt_of_lt_of_le l hb.size, (hb.cell (p := ⟨b, off + i, none⟩) l).trans c, z0, z1⟩
/-- a table that lies in memory abides five stores into a block that was there ahead of it -/
theorem Since.st5 {w : World} {z g : Nat} (hg : g < z) (y0 y1 y2 y3 y4 : Value) : Since z w (st5 w g y0 y1 y2 y3 y4) := ⟨(st5_bk w g y0 y1 y2 y3 y4).size, fun k hk hl => (st5_bk w g y0 y1 y2 y3 y4).block k hl (by omega)⟩

end Go.Proofs.Ytmdghonefdmihae
namespace Go.Proofs.Ytmdghonefdmihae
open Go.RowKit

set_option maxRecDepth 100000 in
set_option maxHeartbeats 1000000 in
theorem drawColWish_any (a : Option Addr) (len cap : Nat) (w : World) (h : IsCode w a len cap) :
    Calls Try.prog 5 #[.slice a len cap] w fun e w' => ∃ (ac ar : Option Addr) (cc cr : Nat) (t : T), e = .returned (.agg #[.slice ac t.cols.length cc, .int .i64 t.head, .int .i64 t.foot, .slice ar t.rows.length cr, .int .i64 t.gap]) ∧ Drawn t ∧
      ColsAt w' w.heap.size (.slice ac t.cols.length cc) t.cols ∧ RowsAt w' w.heap.size (.slice ar t.rows.length cr) t.rows ∧ Below w.heap.size w w' := by
  have K0 := k_alloc (Below.refl w.heap.size w) (.cells #[.slice none 0 0, .int .i64 0, .int .i64 0, .slice none 0 0, .int .i64 0] 26)
  have HC := Hid.intro (h.kept K0)
  have X0 := newestB w (.cells #[.slice none 0 0, .int .i64 0, .int .i64 0, .slice none 0 0, .int .i64 0] 26)
  clear h
  have hsz : (w.alloc (.cells #[.slice none 0 0, .int .i64 0, .int .i64 0, .slice none 0 0, .int .i64 0] 26)).heap.size = w.heap.size + 1 := by simp
  go_enter Try.func5, Try.ntmps5
  go_wp2_with fail
  refine (open_any _ _ _ _ HC.out).mono ?_
  rintro e w1 ⟨rfl, hR1, hb1⟩
  rw [hsz] at hR1 hb1
  have X1 := (hb1.block w.heap.size (by omega)).trans X0
  have K1 := k_trans K0 (by rw [hsz]; exact hb1)
  have hz1 := hR1.lt
  go_wp2_with fail
  refine (l20AnyTable_any (w.heap.size + 1) 0 16 (by omega) _ hR1 (by omega)).mono ?_
  rintro e w2 ⟨ac, ar, cc, cr, t, rfl, hD, hC2, hW2, hR2, hb2⟩
  have X2 := (hb2.block w.heap.size (by omega) (by omega)).trans X1
  have K2 := K1.trans (hb2.below (by omega) (by omega))
  have hz2 : w.heap.size + 1 < w2.heap.size := hR2.lt
  have hw1 : w.heap.size + 2 ≤ w1.heap.size := by omega
  have HC3 := Hid.intro ((hC2.base hw1).since (Since.st5 (z := w.heap.size + 2) (g := w.heap.size) (by omega) (.slice ac t.cols.length cc) (.int .i64 t.head) (.int .i64 t.foot) (.slice ar t.rows.length cr) (.int .i64 t.gap)))
  have HW3 := Hid.intro ((hW2.base hw1).since (Since.st5 (z := w.heap.size + 2) (g := w.heap.size) (by omega) (.slice ac t.cols.length cc) (.int .i64 t.head) (.int .i64 t.foot) (.slice ar t.rows.length cr) (.int .i64 t.gap)))
  have K3 := Hid.intro (K2.trans ((st5_bk w2 w.heap.size (.slice ac t.cols.length cc) (.int .i64 t.head) (.int .i64 t.foot) (.slice ar t.rows.length cr) (.int .i64 t.gap)).below (by omega) (Nat.le_refl _)))
  have HD := Hid.intro hD
  obtain ⟨⟨x0, x1, x2, x3, x4⟩, y0, y1, y2, y3, y4⟩ := fiveZ X2
  clear hC2 hW2 hR2 hb2 X2 X1 X0 K0 K1 K2 hD HC hR1 hb1
  go_wp2
  exact bodyPost_ret (v := .agg #[.slice ac t.cols.length cc, .int .i64 t.head, .int .i64 t.foot, .slice ar t.rows.length cr, .int .i64 t.gap]) (by simp [results, Try.results5, go_sem, x0, x1, x2, x3, x4]) rfl ⟨ac, ar, cc, cr, t, rfl, HD.out, HC3.out.base (by omega), HW3.out.base (by omega), K3.out⟩
end Go.Proofs.Ytmdghonefdmihae
namespace Go.Proofs.Ytmdghonefdmihae
open Go.RowKit

set_option maxRecDepth 100000 in
set_option maxHeartbeats 1000000 in
theorem pwInts_any (v1 v2 : Value) (l : List Int) (w : World) (h1 : IntsAt w v1 l) (h2 : IntsAt w v2 l) :
    Calls Try.prog 8 #[v1, v2] w fun e w' => e = .returned (.bool true) ∧ ∃ n, w' = w.drewN n := by
  obtain ⟨a1, cap1, rfl, hlen⟩ := h1.form
  obtain ⟨a2, cap2, rfl, _⟩ := h2.form
  have hne : ((l.length : Int) != (l.length : Int)) = false := by simp
  have H1 := Hid.intro h1
  have H2 := Hid.intro h2
  clear h1 h2
  go_enter Try.func8, Try.ntmps8
  go_wp2_with fail
  go_loopw [5] (fun i W => ∃ k n : Nat, k ≤ l.length ∧ i = .int .i64 k ∧ W = w.drewN n) (fun i _ => l.length - (intOf i).toNat)
  case atStart => exact ⟨0, 0, Nat.zero_le _, rfl, rfl⟩
  case round =>
    obtain ⟨k, nd, hk, rfl, rfl⟩ := hrel
    by_cases hlt : k < l.length
    · obtain ⟨b1, off1, cap1', e1, hc11, hc12, hbl1, x0⟩ := H1.out.get hlt
      simp only [Value.slice.injEq, true_and] at e1
      obtain ⟨rfl, rfl⟩ := e1
      obtain ⟨b2, off2, cap2', e2, hc21, hc22, hbl2, y0⟩ := H2.out.get hlt
      simp only [Value.slice.injEq, true_and] at e2
      obtain ⟨rfl, rfl⟩ := e2
      unfold maxLen at hc12 hc22
      generalize l.getD k 0 = x at x0 y0
      have hxx : (x != x) = false := by simp
      go_wp2_with fail
      go_quiet (fail)
      go_wp2
      go_roundw
      case rel => exact ⟨k + 1, nd + nq, by omega, by go_num, rfl⟩
      case measure => simp [intOf]; omega
    · go_wp2
      go_ret
      exact ⟨rfl, nd, rfl⟩
end Go.Proofs.Ytmdghonefdmihae
namespace Go.Proofs.Ytmdghonefdmihae
open Go.RowKit

theorem abcOk : txtOkB ⟨#[97, 98, 32, 99]⟩ = true := by decide +kernel
theorem pwOk_any (w : World) : Calls Try.prog 11 #[] w fun e w' => e = .returned (.bool true) ∧ w' = w := by
  go_enter Try.func11, Try.ntmps11
  go_wp2_with fail
  refine (implTxtOk _ _ (by unfold maxLen; decide)).mono ?_
  rw [abcOk]
  rintro e w1 ⟨rfl, rfl⟩
  go_wp2
  go_ret
  exact ⟨rfl, rfl⟩
end Go.Proofs.Ytmdghonefdmihae
namespace Go.Proofs.Ytmdghonefdmihae
open Go.RowKit

set_option maxRecDepth 100000 in
set_option maxHeartbeats 2000000 in
theorem lawspwText (ac ar : Option Addr) (cc cr : Nat) (t : T) (x : GC) {C : Nat} (hx : Cel t C x) (w : World) {z : Nat} (hr : RowsAt w z (.slice ar t.rows.length cr) t.rows) :
    Calls Try.prog 15 #[.agg #[.slice ac t.cols.length cc, .int .i64 t.head, .int .i64 t.foot, .slice ar t.rows.length cr, .int .i64 t.gap], .agg #[.int .i64 x.row, .int .i64 x.col, .int .i64 x.rows, .int .i64 x.cols, .int .i64 x.ins]] w fun e w' => e = .returned (.string (textOf t x)) ∧ (textOf t x).size ≤ maxLen ∧ Below w.heap.size w w' := by
  obtain ⟨rn, jn, cn, mn, e1, e2, e3, e4, h1, h2, h3, h4, h5⟩ := hx.ex
  have HTx : Hid (textOf t x = ((t.rows.getD rn dR).cells.getD jn dC).s) := by rw [Hid, textOf, e1, e2, Int.toNat_natCast, Int.toNat_natCast]
  have K1 := k_alloc (Below.refl w.heap.size w) (.cells #[.slice ac t.cols.length cc, .int .i64 t.head, .int .i64 t.foot, .slice ar t.rows.length cr, .int .i64 t.gap] 26)
  have X1 := newestB w (.cells #[.slice ac t.cols.length cc, .int .i64 t.head, .int .i64 t.foot, .slice ar t.rows.length cr, .int .i64 t.gap] 26)
  have hs1 : (w.alloc (.cells #[.slice ac t.cols.length cc, .int .i64 t.head, .int .i64 t.foot, .slice ar t.rows.length cr, .int .i64 t.gap] 26)).heap.size = w.heap.size + 1 := by simp
  rw [e1, e2]
  clear e1 e2 e3 e4
  go_enter Try.func15, Try.ntmps15
  go_upto_region 1 with fail
  have K2 := k_alloc K1 (.cells #[.int .i64 (rn : Int), .int .i64 x.col, .int .i64 x.rows, .int .i64 x.cols, .int .i64 (jn : Int)] 39)
  have X2 := newestB (w.alloc (.cells #[.slice ac t.cols.length cc, .int .i64 t.head, .int .i64 t.foot, .slice ar t.rows.length cr, .int .i64 t.gap] 26)) (.cells #[.int .i64 (rn : Int), .int .i64 x.col, .int .i64 x.rows, .int .i64 x.cols, .int .i64 (jn : Int)] 39)
  have X1' := (Below.heap_alloc (w.alloc (.cells #[.slice ac t.cols.length cc, .int .i64 t.head, .int .i64 t.foot, .slice ar t.rows.length cr, .int .i64 t.gap] 26)) (.cells #[.int .i64 (rn : Int), .int .i64 x.col, .int .i64 x.rows, .int .i64 x.cols, .int .i64 (jn : Int)] 39) w.heap.size (by omega)).trans X1
  rw [hs1] at X2
  generalize (w.alloc (.cells #[.slice ac t.cols.length cc, .int .i64 t.head, .int .i64 t.foot, .slice ar t.rows.length cr, .int .i64 t.gap] 26)).alloc (.cells #[.int .i64 (rn : Int), .int .i64 x.col, .int .i64 x.rows, .int .i64 x.cols, .int .i64 (jn : Int)] 39) = W at K2 X2 X1' ⊢
  obtain ⟨rb, roff, rcap, re, rc1, rc2, rbl, u, hu0, _, hu⟩ := At.get (hr.kept K2) h1
  simp only [Value.slice.injEq, true_and] at re
  obtain ⟨rfl, rfl⟩ := re
  obtain ⟨qb, qoff, qcap, qe, qc1, qc2, qbl, hv, hsl⟩ := At.get hu h2
  subst qe
  have v0 := hv.1
  have q3 := cellB (p := 3) X1'
  have q0 := cellB (p := 0) X2
  have q4 := cellB (p := 4) X2
  have HSZ : Hid ((textOf t x).size ≤ maxLen) := by rw [Hid, HTx.out]; exact hsl
  have HK := Hid.intro K2
  unfold maxLen at rc2 qc2
  generalize (t.rows.getD rn dR).cells.getD jn dC = y at v0 hsl HTx
  generalize (t.rows.getD rn dR).cells.length = rl at hu0 h2 qc1
  clear hu hv hr h3 h4 h5 hx K1 X1 hs1 K2 X2 X1'
  go_quiet (fail)
  go_wp2
  go_ret
  exact ⟨by rw [HTx.out]; rfl, HSZ.out, k_drewN HK.out nq⟩
end Go.Proofs.Ytmdghonefdmihae
