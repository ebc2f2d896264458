/-
  PROVED HERE: what the model's l5Said answers at a table that lies in memory; nothing that was in memory is turned. Also: the two fields of what is said of a column, as a value. Also: small facts on places of a grid, for the other texts of this claim. Also: what the program's reaches answers at every argument; nothing in memory is turned. Also: what the program's acrossAll and WidCell answer of any list of numbers in memory and any cell; nothing that was in memory is turned. Also: where columns begin and end, and how wide a cell is, at small numbers. Also: a code that lies in memory stays where it is; a table abides five stores ahead of it: for the texts that draw a table. Also: DrawColWish draws a table; nothing that was in memory is turned. Also: what the laws' own pwInts answers of two lists of numbers in memory that are the same; nothing that was in memory is turned. Also: the laws' own pwOk says true; nothing in memory is turned.
-/
import Derived.Test.YtkppaokkopfklaeB27
import Derived.Test.YtkppaokkopfklaeB15
import Derived.Test.YtkppaokkopfklaeB6
import Derived.Test.YtkppaokkopfklaeB1
import Derived.Test.YtkppaokkopfklaeB7
import Derived.Test.YtkppaokkopfklaeB32
import Derived.Test.YtkppaokkopfklaeB18
import Derived.Test.YtkppaokkopfklaeB24
import Derived.Test.YtkppaokkopfklaeB3
import Derived.Laws.AppendOwn
import Derived.Deep.RegionWith
import Derived.Deep.QuietTactic
import Derived.BigQuiet
namespace Go.Proofs.Ytkppaokkopfklae
open Go.RowKit

set_option maxRecDepth 100000 in
set_option maxHeartbeats 1000000 in
theorem specl5Said (ac ar : Option Addr) (cc cr : Nat) (t : T) (q : Int) (hq : 0 ≤ q) (w : World) {z : Nat} (hc : ColsAt w z (.slice ac t.cols.length cc) t.cols) :
    Calls Try.prog 41 #[.agg #[.slice ac t.cols.length cc, .int .i64 t.head, .int .i64 t.foot, .slice ar t.rows.length cr, .int .i64 t.gap], .int .i64 q] w fun e w' => e = .returned (.agg #[.int .i64 (sd t.cols q).1, .int .i64 (sd t.cols q).2]) ∧ Below w.heap.size w w' := by
  obtain ⟨_, _, _, hlen⟩ := At.form hc
  unfold maxLen at hlen
  obtain ⟨k, rfl⟩ := Int.eq_ofNat_of_zero_le hq
  by_cases hkl : k < t.cols.length
  · rw [sd_yes hkl]
    have hlt : (k : Int) < (t.cols.length : Int) := by omega
    obtain ⟨b, off, cap', e', hc1, hc2, hbl, hx0, hx1⟩ := At.get hc hkl
    simp only [Value.slice.injEq, true_and] at e'
    obtain ⟨rfl, rfl⟩ := e'
    unfold maxLen at hc2
    generalize t.cols.getD k (0, 0) = p at hx0 hx1 ⊢
    clear hc
    go_enter Try.func41, Try.ntmps41
    go_wp2
    exact bodyPost_ret (v := .agg #[.int .i64 p.1, .int .i64 p.2]) (by simp [results, Try.results41, go_sem]) rfl ⟨rfl, by repeat (first | exact Below.refl _ _ | apply k_alloc)⟩
  · rw [sd_no (inB_false (by omega))]
    have hlt : ¬ (k : Int) < (t.cols.length : Int) := by omega
    clear hc
    go_enter Try.func41, Try.ntmps41
    go_wp2
    exact bodyPost_ret (v := .agg #[.int .i64 0, .int .i64 0]) (by simp [results, Try.results41, go_sem]) rfl ⟨rfl, by repeat (first | exact Below.refl _ _ | apply k_alloc)⟩
end Go.Proofs.Ytkppaokkopfklae
namespace Go.Proofs.Ytkppaokkopfklae
open Go.RowKit

theorem field0 (a b : Value) (W : World) : (Instr.field 46 (.agg #[a, b]) 0).run Try.prog W = .ok a W := by
  kernel_rfl
theorem field1 (a b : Value) (W : World) : (Instr.field 46 (.agg #[a, b]) 1).run Try.prog W = .ok b W := by
  kernel_rfl
end Go.Proofs.Ytkppaokkopfklae
namespace Go.Proofs.Ytkppaokkopfklae
open Go.RowKit

theorem ret_boolG {a b : Bool} (h : a = b) : Ending.returned (.bool a) = .returned (.bool b) := by rw [h]
def isIn (row ins : Int) (x : GC) : Bool := (x.row == row) && (x.ins == ins)
/-- whether a place is one of so many from a first one on -/
def amongB (x first many : Int) : Bool := decide (first ≤ x) && decide (0 < many) && decide (x - first < many)
def holdsB (row col : Int) (x : GC) : Bool := amongB row x.row x.rows && amongB col x.col x.cols

theorem lt_of_blockG {w : World} {g : Nat} {o : Obj} (h : w.heap[g]? = some o) : g < w.heap.size := (Array.getElem?_eq_some_iff.1 h).1

theorem wrap_sub {x f : Int} (hx : -9223372036854775808 ≤ x ∧ x ≤ 9223372036854775807) (hf : -9223372036854775808 ≤ f ∧ f ≤ 9223372036854775807) (h : f ≤ x) : IntKind.u64.wrap (IntKind.u64.wrap x - IntKind.u64.wrap f) = x - f := by
  simp [IntKind.wrap, IntKind.bits, IntKind.signed]
  omega

end Go.Proofs.Ytkppaokkopfklae
namespace Go.Proofs.Ytkppaokkopfklae
open Go.RowKit

theorem reaches_any (x f m : Int) (hx : I64 x) (hf : I64 f) (hm : I64 m) (w : World) :
    Calls Try.prog 37 #[.int .i64 f, .int .i64 m, .int .i64 x] w fun e w' => e = .returned (.bool (amongB x f m)) ∧ w' = w := by
  unfold I64 at hx hf hm
  by_cases h1 : f ≤ x
  · by_cases h2 : 0 < m
    · have e : amongB x f m = decide (x - f < m) := by simp [amongB]; omega
      rw [e]
      go_enter Try.func37, Try.ntmps37
      go_wp2
      go_ret
      exact ⟨ret_boolG (by rw [wrap_sub hx hf h1]), rfl⟩
    · have e : amongB x f m = false := by simp [amongB]; omega
      rw [e]
      go_enter Try.func37, Try.ntmps37
      go_wp2
      go_ret
      exact ⟨rfl, rfl⟩
  · have e : amongB x f m = false := by simp [amongB]; omega
    rw [e]
    go_enter Try.func37, Try.ntmps37
    go_wp2
    go_ret
    exact ⟨rfl, rfl⟩
end Go.Proofs.Ytkppaokkopfklae
namespace Go.Proofs.Ytkppaokkopfklae
open Go.RowKit

/-- whether a column is of a cell -/
def inCell (x : GC) (k : Nat) : Bool := amongB (k : Int) x.col x.cols
def cellV (l : List Int) (gap : Int) (x : GC) : Int := acrV (ownL l (inCell x) l.length) gap

theorem infoIc : (Try.prog.info? 3).map (fun i => (i.zero, i.size, i.bytes)) = some (some (Value.int .i64 0), 1, 8) := by kernel_rfl
/-- what an append of one number leaves -/
theorem app_keeps {w w3 w4 : World} {B n : Nat} {xs : List Value} {x : Int} {o : Value} (hB : w.heap.size ≤ B) (hO : w3.ownsRow B 3 1 o n xs) (K : Below w.heap.size w w3)
    (hg : (w3.alloc (.cells #[.int .i64 x] 3)).grownBy w4 o.ownBlock) : Below w.heap.size w w4 ∧ ∀ g, g < B → g < w3.heap.size → w4.heap[g]? = w3.heap[g]? := by
  have hA := k_alloc K (.cells #[.int .i64 x] 3)
  refine ⟨⟨hg.os.trans hA.os, hg.tape.trans hA.tape, hg.output.trans hA.output, Nat.le_trans hA.size hg.size, fun k hk => (hg.block k (Nat.lt_of_lt_of_le hk hA.size) (fun hb => ?_)).trans (hA.block k hk)⟩, fun k hk hl => (hg.block k (by simp; omega) (fun hb => ?_)).trans (Below.heap_alloc _ _ _ hl)⟩
  · have := (hO.lt k hb.symm).1
    omega
  · have := (hO.lt k hb.symm).1
    omega
theorem ownL_yes {l : List Int} {p : Nat → Bool} {k : Nat} (h : p k = true) : ownL l p (k + 1) = ownL l p k ++ [l.getD k 0] := by rw [ownL, if_pos h]
theorem ownL_no {l : List Int} {p : Nat → Bool} {k : Nat} (h : p k = false) : ownL l p (k + 1) = ownL l p k := by rw [ownL, if_neg (by rw [h]; simp)]

set_option maxRecDepth 100000 in
set_option maxHeartbeats 1000000 in
theorem implWidCell (v : Value) (l : List Int) (hl : l.length ≤ 1048576) (gap : Int) (x : GC) (hx : GOk x) (w : World) (h : IntsAt w v l) :
    Calls Try.prog 13 #[v, .int .i64 gap, .agg #[.int .i64 x.row, .int .i64 x.col, .int .i64 x.rows, .int .i64 x.cols, .int .i64 x.ins]] w fun e w' => e = .returned (.int .i64 (cellV l gap x)) ∧ Below w.heap.size w w' := by
  obtain ⟨i0, hi, hz0, hz1, hz2⟩ := info_parts infoIc
  obtain ⟨a, cap, rfl, hlen⟩ := h.form
  obtain ⟨_, b1, _, b3, _⟩ := hx
  have K0 := k_alloc (Below.refl w.heap.size w) (.cells #[.int .i64 x.row, .int .i64 x.col, .int .i64 x.rows, .int .i64 x.cols, .int .i64 x.ins] 39)
  have X0 := newestB w (.cells #[.int .i64 x.row, .int .i64 x.col, .int .i64 x.rows, .int .i64 x.cols, .int .i64 x.ins] 39)
  have H := Hid.intro h
  have HR := Hid.intro (fun (k : Nat) (hk : k ≤ 1048576) => reaches_any (k : Int) x.col x.cols (by unfold I64; omega) b1 b3)
  clear h b1 b3
  go_enter Try.func13, Try.ntmps13
  go_wp2_with fail
  go_loopw [7, 12] (fun o i W => ∃ k : Nat, i = .int .i64 k ∧ k ≤ l.length ∧ Hid (W.ownsRow (w.heap.size + 1) 3 1 o (ownL l (inCell x) k).length ((ownL l (inCell x) k).map (Value.int .i64))) ∧ Hid (Below w.heap.size w W) ∧ Hid (W.heap[w.heap.size]? = some (.cells #[.int .i64 x.row, .int .i64 x.col, .int .i64 x.rows, .int .i64 x.cols, .int .i64 x.ins] 39))) (fun _ i _ => l.length - (intOf i).toNat)
  case atStart => exact ⟨0, rfl, Nat.zero_le _, ⟨by simp [ownL], .inl ⟨rfl, rfl⟩⟩, K0, X0⟩
  case round =>
    obtain ⟨k, rfl, hk, HO, HB, HX⟩ := hrel
    have c1 : wr.cell? ⟨w.heap.size, 1, none⟩ = some (.int .i64 x.col) := cellB HX.out
    have c3 : wr.cell? ⟨w.heap.size, 3, none⟩ = some (.int .i64 x.cols) := cellB HX.out
    by_cases hlt : k < l.length
    · obtain ⟨b, off, cap', e', hc1, hc2, hbl, hy⟩ := (H.out.kept HB.out).get hlt
      simp only [Value.slice.injEq, true_and] at e'
      obtain ⟨rfl, rfl⟩ := e'
      unfold maxLen at hc2
      have KR := Hid.intro (HR.out k (by omega) wr)
      have hol := ownL_len l (inCell x) k
      cases hin : inCell x k with
      | false =>
        have HL := Hid.intro (ownL_no (l := l) hin)
        have hin' : amongB (k : Int) x.col x.cols = false := hin
        rw [hin'] at KR
        clear hin hin'
        generalize l.getD k 0 = y at hy
        go_wp2_with fail
        refine KR.out.mono ?_
        rintro e w1 ⟨rfl, rfl⟩
        go_wp2
        go_roundw
        case rel => exact ⟨k + 1, by go_num, by omega, by rw [HL.out]; exact HO, HB, HX⟩
        case measure => simp [intOf]; omega
      | true =>
        have HL := Hid.intro (ownL_yes (l := l) hin)
        have hin' : amongB (k : Int) x.col x.cols = true := hin
        rw [hin'] at KR
        clear hin hin'
        generalize l.getD k 0 = y at hy HL
        generalize ownL l (inCell x) k = xs at HO HL hol
        go_wp2_with fail
        refine KR.out.mono ?_
        rintro e w1 ⟨rfl, rfl⟩
        have hO4 := HO.out
        have hsz : w.heap.size < w1.heap.size := (Array.getElem?_eq_some_iff.1 HX.out).1
        go_wp2_with (at_builtin; refine wpList_append_own _ rfl _ _ 28 rfl (w.heap.size + 1) 3 i0 (.int .i64 0) 1 8 Try.underlying28 hi hz0 hz1 hz2 rfl (by decide) _ _ _ rfl (hO4.alloc _) ⟨w1.heap.size, 0, none⟩ 1 1 [.int .i64 y] rfl rfl ?c1 ?c2 ?c3 ?c4 ?c5 ?_)
        case c1 =>
          intro i u hi
          match i, hi with
          | 0, hi => simp at hi; subst hi; simp [Addr.add]
        case c2 => intro u hu; simp at hu; subst hu; rfl
        case c3 => unfold maxLen; omega
        case c4 => omega
        case c5 => simp; omega
        intro v' w5 hown' hgrow' _
        obtain ⟨hB5, hX5⟩ := app_keeps (Nat.le_succ _) hO4 HB.out hgrow'
        have HB5 := Hid.intro hB5
        have HX5 := Hid.intro ((hX5 w.heap.size (Nat.lt_succ_self _) (Array.getElem?_eq_some_iff.1 HX.out).1).trans HX.out)
        have HO5 : Hid (w5.ownsRow (w.heap.size + 1) 3 1 v' (xs ++ [y]).length ((xs ++ [y]).map (Value.int .i64))) := by rw [List.length_append, List.map_append]; exact hown'
        obtain ⟨g', cap'', rfl⟩ := Joins.ownsRow_form hown' (by omega)
        clear hown' hgrow' hO4 hB5 hX5 HO HB HX
        go_wp2
        go_roundw
        case rel => exact ⟨k + 1, by go_num, by omega, by rw [HL.out]; exact HO5, HB5, HX5⟩
        case measure => simp [intOf]; omega
    · obtain rfl : k = l.length := by omega
      have hI := (RowI.of_owns HO.out).at
      obtain ⟨aa, cc, rfl, _⟩ := hI.form
      have KA := Hid.intro (implacrossAll _ _ gap wr hI)
      have HV : Hid (cellV l gap x = acrV (ownL l (inCell x) l.length) gap) := rfl
      clear hI
      go_wp2_with fail
      refine KA.out.mono ?_
      rintro e w1 ⟨rfl, rfl⟩
      go_wp2
      go_ret
      exact ⟨rfl, HB.out⟩
end Go.Proofs.Ytkppaokkopfklae
namespace Go.Proofs.Ytkppaokkopfklae
open Go.RowKit

theorem sumS {l : List Int} (h : ∀ x ∈ l, 0 ≤ x ∧ x ≤ 20) : ∀ k, k ≤ l.length → 0 ≤ sumTo l k ∧ sumTo l k ≤ 20 * (k : Int)
  | 0, _ => by simp [sumTo]
  | k + 1, hk => by
    have h1 := sumS h k (by omega)
    have h2 := h l[k] (List.getElem_mem (by omega))
    have e : l.getD k 0 = l[k] := by simp [List.getD, show k < l.length by omega]
    rw [sumTo_succ (by omega), e]
    omega
theorem gapS {gap : Int} (h : -1 ≤ gap ∧ gap ≤ 4) {k : Nat} (hk : k ≤ 6) : -6 ≤ gap * (k : Int) ∧ gap * (k : Int) ≤ 24 := by
  rcases (by omega : gap = -1 ∨ gap = 0 ∨ gap = 1 ∨ gap = 2 ∨ gap = 3 ∨ gap = 4) with rfl | rfl | rfl | rfl | rfl | rfl <;> omega
theorem atS {l : List Int} (h : ∀ x ∈ l, 0 ≤ x ∧ x ≤ 20) (hl : l.length ≤ 6) {gap : Int} (hg : -1 ≤ gap ∧ gap ≤ 4) {k : Nat} (hk : k ≤ l.length) : atV l gap k = sumTo l k + gap * (k : Int) ∧ -6 ≤ atV l gap k ∧ atV l gap k ≤ 200 := by
  have h1 := sumS h k hk
  have h2 := gapS hg (show k ≤ 6 by omega)
  have e : atV l gap k = sumTo l k + gap * (k : Int) := by
    rw [atV, aheadN_nat l hk, W_small (by omega)]
  rw [e]
  omega
theorem getS {l : List Int} (h : ∀ x ∈ l, 0 ≤ x ∧ x ≤ 20) {k : Nat} (hk : k < l.length) : 0 ≤ l.getD k 0 ∧ l.getD k 0 ≤ 20 := by
  have e : l.getD k 0 = l[k] := by simp [List.getD, hk]
  rw [e]; exact h _ (List.getElem_mem hk)
theorem endS {l : List Int} (h : ∀ x ∈ l, 0 ≤ x ∧ x ≤ 20) (hl : l.length ≤ 6) {gap : Int} (hg : -1 ≤ gap ∧ gap ≤ 4) {k : Nat} (hk : k < l.length) : endV l gap k = sumTo l (k + 1) + gap * (k : Int) ∧ -6 ≤ endV l gap k ∧ endV l gap k ≤ 300 := by
  have h1 := atS h hl hg (show k ≤ l.length by omega)
  have h2 := getS h hk
  have e : endV l gap k = atV l gap k + l.getD k 0 := by
    rw [endV, if_pos (inB_true (by omega) (by omega)), Int.toNat_natCast, W_small (by omega)]
  rw [e, sumTo_succ hk]
  omega
theorem ownL_none {l : List Int} {p : Nat → Bool} : ∀ k, (∀ i, i < k → p i = false) → ownL l p k = []
  | 0, _ => rfl
  | k + 1, h => by rw [ownL, if_neg (by rw [h k (by omega)]; simp)]; exact ownL_none k (fun i hi => h i (by omega))
theorem cellV_none {l : List Int} {gap : Int} {x : GC} (h : x.cols ≤ 0) : cellV l gap x = 0 := by
  unfold cellV
  rw [ownL_none _ (fun i _ => by simp [inCell, amongB]; omega)]
  rfl
theorem own_span {l : List Int} {x : GC} {c m : Nat} (hc : x.col = c) (hm : x.cols = m) : ∀ k, k ≤ l.length → (ownL l (inCell x) k).length = min m (k - c) ∧ (ownL l (inCell x) k).sum = sumTo l (min k (c + m)) - sumTo l (min k c)
  | 0, _ => by simp [ownL, sumTo]
  | k + 1, hk => by
    obtain ⟨h1, h2⟩ := own_span (l := l) hc hm k (by omega)
    by_cases hin : c ≤ k ∧ k < c + m
    · have e : inCell x k = true := by simp [inCell, amongB, hc, hm]; omega
      rw [ownL_yes e, List.length_append, List.sum_append, h1, h2]
      have e1 : min (k + 1) (c + m) = k + 1 := by omega
      have e2 : min k (c + m) = k := by omega
      have e3 : min (k + 1) c = c := by omega
      have e4 : min k c = c := by omega
      rw [e1, e2, e3, e4, sumTo_succ (by omega)]
      simp
      omega
    · have e : inCell x k = false := by simp [inCell, amongB, hc, hm]; omega
      rw [ownL_no e, h1, h2]
      have e1 : min (k + 1) (c + m) = min k (c + m) ∨ min (k + 1) c = k + 1 := by omega
      by_cases hkc : k < c
      · have a1 : min (k + 1) (c + m) = k + 1 := by omega
        have a2 : min k (c + m) = k := by omega
        have a3 : min (k + 1) c = k + 1 := by omega
        have a4 : min k c = k := by omega
        rw [a1, a2, a3, a4]
        omega
      · have a1 : min (k + 1) (c + m) = min k (c + m) := by omega
        have a3 : min (k + 1) c = min k c := by omega
        rw [a1, a3]
        omega
theorem cellV_small {l : List Int} (h : ∀ x ∈ l, 0 ≤ x ∧ x ≤ 20) (hl : l.length ≤ 6) {gap : Int} (hg : -1 ≤ gap ∧ gap ≤ 4) {x : GC} {c m : Nat} (hc : x.col = c) (hm : x.cols = m) (h1 : 1 ≤ m) (h2 : c + m ≤ l.length) :
    cellV l gap x = endV l gap ((c : Int) + (m : Int) - 1) - atV l gap c ∧ (-9 ≤ atV l gap c ∧ atV l gap c ≤ 300) ∧ -9 ≤ endV l gap ((c : Int) + (m : Int) - 1) ∧ endV l gap ((c : Int) + (m : Int) - 1) ≤ 300 := by
  have ek : (c : Int) + (m : Int) - 1 = ((c + m - 1 : Nat) : Int) := by omega
  rw [ek]
  have hE := endS h hl hg (show c + m - 1 < l.length by omega)
  have hA := atS h hl hg (show c ≤ l.length by omega)
  obtain ⟨o1, o2⟩ := own_span (l := l) hc hm l.length (Nat.le_refl _)
  rw [show min m (l.length - c) = m by omega] at o1
  rw [show min l.length (c + m) = c + m by omega, show min l.length c = c by omega] at o2
  have hs1 := sumS h (c + m) h2
  have hs2 := sumS h c (by omega)
  have hgm := gapS hg (show m - 1 ≤ 6 by omega)
  rw [show ((m - 1 : Nat) : Int) = (m : Int) - 1 by omega] at hgm
  have e : cellV l gap x = sumTo l (c + m) - sumTo l c + gap * ((m : Int) - 1) := by
    unfold cellV
    rw [acrV_cons (by rw [o1]; omega), o1, o2, W_small (by omega)]
  refine ⟨?_, by omega, by omega⟩
  rw [e, hE.1, hA.1, show c + m - 1 + 1 = c + m by omega, show ((c + m - 1 : Nat) : Int) = (c : Int) + ((m : Int) - 1) by omega, Int.mul_add]
  omega
end Go.Proofs.Ytkppaokkopfklae
namespace Go.Proofs.Ytkppaokkopfklae
open Go.RowKit

theorem IsCode.kept {w w' : World} {a : Option Addr} {len cap : Nat} (h : IsCode w a len cap) (hb : Below w.heap.size w w') : IsCode w' a len cap := by
  obtain ⟨h1, h2, hc⟩ := h
  refine ⟨h1, h2, fun i hi => ?_⟩
  obtain ⟨b, off, z, e, l, c, z0, z1⟩ := hc i hi
  exact ⟨b, off, z, e, Nat.lt_of_lt_of_le l hb.size, (hb.cell (p := ⟨b, off + i, none⟩) l).trans c, z0, z1⟩
/-- a table that lies in memory abides five stores into a block that was there ahead of it -/
theorem Since.st5 {w : World} {z g : Nat} (hg : g < z) (y0 y1 y2 y3 y4 : Value) : Since z w (st5 w g y0 y1 y2 y3 y4) := ⟨(st5_bk w g y0 y1 y2 y3 y4).size, fun k hk hl => (st5_bk w g y0 y1 y2 y3 y4).block k hl (by omega)⟩

end Go.Proofs.Ytkppaokkopfklae
namespace Go.Proofs.Ytkppaokkopfklae
open Go.RowKit

set_option maxRecDepth 100000 in
set_option maxHeartbeats 1000000 in
theorem drawColWish_any (a : Option Addr) (len cap : Nat) (w : World) (h : IsCode w a len cap) :
    Calls Try.prog 5 #[.slice a len cap] w fun e w' => ∃ (ac ar : Option Addr) (cc cr : Nat) (t : T), e = .returned (.agg #[.slice ac t.cols.length cc, .int .i64 t.head, .int .i64 t.foot, .slice ar t.rows.length cr, .int .i64 t.gap]) ∧ Drawn t ∧
      ColsAt w' w.heap.size (.slice ac t.cols.length cc) t.cols ∧ RowsAt w' w.heap.size (.slice ar t.rows.length cr) t.rows ∧ Below w.heap.size w w' := by
  have K0 := k_alloc (Below.refl w.heap.size w) (.cells #[.slice none 0 0, .int .i64 0, .int .i64 0, .slice none 0 0, .int .i64 0] 26)
  have HC := Hid.intro (h.kept K0)
  have X0 := newestB w (.cells #[.slice none 0 0, .int .i64 0, .int .i64 0, .slice none 0 0, .int .i64 0] 26)
  clear h
  have hsz : (w.alloc (.cells #[.slice none 0 0, .int .i64 0, .int .i64 0, .slice none 0 0, .int .i64 0] 26)).heap.size = w.heap.size + 1 := by simp
  go_enter Try.func5, Try.ntmps5
  go_wp2_with fail
  refine (open_any _ _ _ _ HC.out).mono ?_
  rintro e w1 ⟨rfl, hR1, hb1⟩
  rw [hsz] at hR1 hb1
  have X1 := (hb1.block w.heap.size (by omega)).trans X0
  have K1 := k_trans K0 (by rw [hsz]; exact hb1)
  have hz1 := hR1.lt
  go_wp2_with fail
  refine (l20AnyTable_any (w.heap.size + 1) 0 16 (by omega) _ hR1 (by omega)).mono ?_
  rintro e w2 ⟨ac, ar, cc, cr, t, rfl, hD, hC2, hW2, hR2, hb2⟩
  have X2 := (hb2.block w.heap.size (by omega) (by omega)).trans X1
  have K2 := K1.trans (hb2.below (by omega) (by omega))
  have hz2 : w.heap.size + 1 < w2.heap.size := hR2.lt
  have hw1 : w.heap.size + 2 ≤ w1.heap.size := by omega
  have HC3 := Hid.intro ((hC2.base hw1).since (Since.st5 (z := w.heap.size + 2) (g := w.heap.size) (by omega) (.slice ac t.cols.length cc) (.int .i64 t.head) (.int .i64 t.foot) (.slice ar t.rows.length cr) (.int .i64 t.gap)))
  have HW3 := Hid.intro ((hW2.base hw1).since (Since.st5 (z := w.heap.size + 2) (g := w.heap.size) (by omega) (.slice ac t.cols.length cc) (.int .i64 t.head) (.int .i64 t.foot) (.slice ar t.rows.length cr) (.int .i64 t.gap)))
  have K3 := Hid.intro (K2.trans ((st5_bk w2 w.heap.size (.slice ac t.cols.length cc) (.int .i64 t.head) (.int .i64 t.foot) (.slice ar t.rows.length cr) (.int .i64 t.gap)).below (by omega) (Nat.le_refl _)))
  have HD := Hid.intro hD
  obtain ⟨⟨x0, x1, x2, x3, x4⟩, y0, y1, y2, y3, y4⟩ := fiveZ X2
  clear hC2 hW2 hR2 hb2 X2 X1 X0 K0 K1 K2 hD HC hR1 hb1
  go_wp2
  exact bodyPost_ret (v := .agg #[.slice ac t.cols.length cc, .int .i64 t.head, .int .i64 t.foot, .slice ar t.rows.length cr, .int .i64 t.gap]) (by simp [results, Try.results5, go_sem, x0, x1, x2, x3, x4]) rfl ⟨ac, ar, cc, cr, t, rfl, HD.out, HC3.out.base (by omega), HW3.out.base (by omega), K3.out⟩
end Go.Proofs.Ytkppaokkopfklae
namespace Go.Proofs.Ytkppaokkopfklae
open Go.RowKit

set_option maxRecDepth 100000 in
set_option maxHeartbeats 1000000 in
theorem pwInts_any (v1 v2 : Value) (l : List Int) (w : World) (h1 : IntsAt w v1 l) (h2 : IntsAt w v2 l) :
    Calls Try.prog 8 #[v1, v2] w fun e w' => e = .returned (.bool true) ∧ ∃ n, w' = w.drewN n := by
  obtain ⟨a1, cap1, rfl, hlen⟩ := h1.form
  obtain ⟨a2, cap2, rfl, _⟩ := h2.form
  have hne : ((l.length : Int) != (l.length : Int)) = false := by simp
  have H1 := Hid.intro h1
  have H2 := Hid.intro h2
  clear h1 h2
  go_enter Try.func8, Try.ntmps8
  go_wp2_with fail
  go_loopw [5] (fun i W => ∃ k n : Nat, k ≤ l.length ∧ i = .int .i64 k ∧ W = w.drewN n) (fun i _ => l.length - (intOf i).toNat)
  case atStart => exact ⟨0, 0, Nat.zero_le _, rfl, rfl⟩
  case round =>
    obtain ⟨k, nd, hk, rfl, rfl⟩ := hrel
    by_cases hlt : k < l.length
    · obtain ⟨b1, off1, cap1', e1, hc11, hc12, hbl1, x0⟩ := H1.out.get hlt
      simp only [Value.slice.injEq, true_and] at e1
      obtain ⟨rfl, rfl⟩ := e1
      obtain ⟨b2, off2, cap2', e2, hc21, hc22, hbl2, y0⟩ := H2.out.get hlt
      simp only [Value.slice.injEq, true_and] at e2
      obtain ⟨rfl, rfl⟩ := e2
      unfold maxLen at hc12 hc22
      generalize l.getD k 0 = x at x0 y0
      have hxx : (x != x) = false := by simp
      go_wp2_with fail
      go_quiet (fail)
      go_wp2
      go_roundw
      case rel => exact ⟨k + 1, nd + nq, by omega, by go_num, rfl⟩
      case measure => simp [intOf]; omega
    · go_wp2
      go_ret
      exact ⟨rfl, nd, rfl⟩
end Go.Proofs.Ytkppaokkopfklae
namespace Go.Proofs.Ytkppaokkopfklae
open Go.RowKit

theorem abcOk : txtOkB ⟨#[97, 98, 32, 99]⟩ = true := by decide +kernel
theorem pwOk_any (w : World) : Calls Try.prog 11 #[] w fun e w' => e = .returned (.bool true) ∧ w' = w := by
  go_enter Try.func11, Try.ntmps11
  go_wp2_with fail
  refine (implTxtOk _ _ (by unfold maxLen; decide)).mono ?_
  rw [abcOk]
  rintro e w1 ⟨rfl, rfl⟩
  go_wp2
  go_ret
  exact ⟨rfl, rfl⟩
end Go.Proofs.Ytkppaokkopfklae
