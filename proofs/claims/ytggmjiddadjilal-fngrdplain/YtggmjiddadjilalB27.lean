/-
  PROVED HERE: what the program's GrdBlocks answers at a grid that lies in memory, and that its answer owns its memory; nothing that was in memory is turned. Also: what the program's boundsOk and cellFits answer; nothing that was in memory is turned.
-/
import Derived.Test.YtggmjiddadjilalB4
import Derived.Test.YtggmjiddadjilalB2
import Derived.Test.YtggmjiddadjilalB21
import Derived.Test.YtggmjiddadjilalB22
import Derived.Deep.DeepCutAuto
import Derived.Deep.RegionWith
namespace Go.Proofs.Ytggmjiddadjilal
open Go.RowKit

/-- whether a cell begins above a row and goes over it -/
def overI (row : Int) (x : GC) : Bool := decide (x.row < row) && amongB row x.row x.rows
def overS (row : Int) (x : GC) : Bool := decide (x.row < row) && decide (row < x.row + x.rows)
theorem over_eq {R C : Int} {x : GC} (h : fitsB R C x = true) (row : Int) : overI row x = overS row x := by
  obtain ⟨e1, e2, e3, e4, h1, h2, h3, h4⟩ := fits_of h
  rw [Bool.eq_iff_iff]
  simp [overI, overS, amongB]
  omega
def crossI (gs : List GC) (row : Int) : Bool := gs.any (overI row)
def crossS (gs : List GC) (row : Int) : Bool := gs.any (overS row)
theorem cross_eq {R C : Int} {gs : List GC} (h : ∀ a ∈ gs, fitsB R C a = true) (row : Int) : crossI gs row = crossS gs row := by
  unfold crossI crossS
  induction gs with
  | nil => rfl
  | cons a t ih => rw [List.any_cons, List.any_cons, over_eq (h a (by simp)), ih (fun b hb => h b (by simp [hb]))]
/-- the first rows of blocks among the first so many rows -/
def blocksTo (gs : List GC) (k : Nat) : List Int := ((List.range k).filter (fun r : Nat => !crossS gs (r : Int))).map (fun r => ((r : Nat) : Int))
theorem blocksTo_zero (gs : List GC) : blocksTo gs 0 = [] := rfl
theorem blocksTo_in {gs : List GC} {k : Nat} (h : crossS gs k = false) : blocksTo gs (k + 1) = blocksTo gs k ++ [(k : Int)] := by simp [blocksTo, List.range_succ, h]
theorem blocksTo_out {gs : List GC} {k : Nat} (h : crossS gs k = true) : blocksTo gs (k + 1) = blocksTo gs k := by simp [blocksTo, List.range_succ, h]
theorem blocksTo_len (gs : List GC) (k : Nat) : (blocksTo gs k).length ≤ k := by
  have := List.length_filter_le (fun r : Nat => !crossS gs (r : Int)) (List.range k)
  simpa [blocksTo] using this
def blocksL (g : G) : List Int := if okB g then blocksTo g.cells g.rows.toNat else []
theorem blocksL_no {g : G} (h : okB g = false) : blocksL g = [] := by rw [blocksL, if_neg (by rw [h]; simp)]
theorem blocksL_ok {g : G} (h : okB g = true) : blocksL g = blocksTo g.cells g.rows.toNat := by rw [blocksL, if_pos h]
theorem cross_hit {gs : List GC} {row : Int} {k : Nat} (hk : k < gs.length) (h : overI row (gs.getD k dG) = true) : crossI gs row = true := by
  refine List.any_eq_true.2 ⟨gs[k], List.getElem_mem hk, ?_⟩
  have e : gs.getD k dG = gs[k] := by simp [List.getD, hk]
  rw [← e]; exact h
theorem cross_none {gs : List GC} {row : Int} (h : ∀ j, j < gs.length → overI row (gs.getD j dG) = false) : crossI gs row = false := by
  cases hc : crossI gs row with
  | false => rfl
  | true =>
    obtain ⟨x, hx, ho⟩ := List.any_eq_true.1 hc
    obtain ⟨i, hi, rfl⟩ := List.mem_iff_getElem.1 hx
    have := h i hi
    have e : gs.getD i dG = gs[i] := by simp [List.getD, hi]
    rw [e, ho] at this
    cases this

set_option maxRecDepth 100000 in
set_option maxHeartbeats 1000000 in
theorem isCrossed_any (a b : Int) (ac : Option Addr) (cc : Nat) (gs : List GC) (row : Int) (hr : I64 row) (w : World) {z : Nat} (h : GsAt w z (.slice ac gs.length cc) gs) :
    Calls Try.prog 71 #[.agg #[.int .i64 a, .int .i64 b, .slice ac gs.length cc], .int .i64 row] w fun e w' => e = .returned (.bool (crossI gs row)) ∧ Below w.heap.size w w' := by
  obtain ⟨_, _, _, hlen⟩ := At.form h
  unfold maxLen at hlen
  have H := Hid.intro h
  clear h
  go_enter Try.func71, Try.ntmps71
  go_wp2_with fail
  go_loopw [10] (fun i W => ∃ k : Nat, k ≤ gs.length ∧ i = .int .i64 k ∧ Hid (∀ j, j < k → overI row (gs.getD j dG) = false) ∧ Hid (Below w.heap.size w W)) (fun i _ => gs.length - (intOf i).toNat)
  case atStart => exact ⟨0, Nat.zero_le _, rfl, fun j hj => absurd hj (Nat.not_lt_zero _), k_alloc (Below.refl _ _) _⟩
  case round =>
    obtain ⟨k, hk, rfl, HA, HB⟩ := hrel
    by_cases hlt : k < gs.length
    · obtain ⟨q, off, cap', e', hc1, hc2, hbl, hx, hs⟩ := At.get (H.out.kept HB.out) hlt
      simp only [Value.slice.injEq, true_and] at e'
      obtain ⟨rfl, rfl⟩ := e'
      have HH : Hid (overI row (gs.getD k dG) = true → crossI gs row = true) := fun hp => cross_hit hlt hp
      have HN : Hid (overI row (gs.getD k dG) = false → ∀ j, j < k + 1 → overI row (gs.getD j dG) = false) := fun hp j hj => by
        rcases Nat.lt_or_eq_of_le (Nat.lt_succ_iff.1 hj) with h1 | rfl
        · exact HA.out j h1
        · exact hp
      generalize gs.getD k dG = x at hx hs HH HN
      obtain ⟨x0, x1, x2, x3, x4⟩ := hx
      obtain ⟨b0, b1, b2, b3, _⟩ := hs
      have H1 := Hid.intro (reaches_any row x.row x.rows hr b0 b2)
      unfold maxLen at hc2
      clear b0 b1 b2 b3
      by_cases h1 : x.row < row
      · cases h2 : amongB row x.row x.rows with
        | false =>
          have HF := Hid.intro (HN.out (by simp only [overI, h2, Bool.and_false]))
          rw [h2] at H1
          clear HH HN HA
          go_wp2_with fail
          refine (H1.out _).mono ?_
          rintro e w1 ⟨rfl, rfl⟩
          go_wp2
          go_roundw
          case rel => exact ⟨k + 1, by omega, by go_num, HF, k_alloc HB.out _⟩
          case measure => simp [intOf]; omega
        | true =>
          have HF := Hid.intro (HH.out (by simp only [overI, h1, h2, decide_true, Bool.and_self]))
          rw [h2] at H1
          clear HH HN HA
          go_wp2_with fail
          refine (H1.out _).mono ?_
          rintro e w1 ⟨rfl, rfl⟩
          go_wp2
          go_ret
          exact ⟨retB HF.out.symm, k_alloc HB.out _⟩
      · have HF := Hid.intro (HN.out (by simp only [overI, h1, decide_false, Bool.false_and]))
        clear HH HN HA
        go_wp2
        go_roundw
        case rel => exact ⟨k + 1, by omega, by go_num, HF, k_alloc HB.out _⟩
        case measure => simp [intOf]; omega
    · obtain rfl : k = gs.length := by omega
      have HF := Hid.intro (cross_none HA.out)
      clear HA
      go_wp2
      go_ret
      exact ⟨retB HF.out.symm, HB.out⟩

theorem own_neI {w : World} {base n0 k : Nat} {e : TypeId} {v : Value} {xs : List Value} (h : w.ownsRow base e 1 v k xs) (hn : n0 < base) : some n0 ≠ v.ownBlock := by
  rcases h.2 with ⟨rfl, _⟩ | ⟨g, cap, cur, rfl, hb, _⟩
  · simp [Value.ownBlock]
  · simp [Value.ownBlock]; omega
theorem own_ge {w : World} {base j k : Nat} {e : TypeId} {v : Value} {xs : List Value} (h : w.ownsRow base e 1 v k xs) (hj : v.ownBlock = some j) : base ≤ j := by
  rcases h.2 with ⟨rfl, _⟩ | ⟨g, cap, cur, rfl, hb, _⟩
  · simp [Value.ownBlock] at hj
  · simp [Value.ownBlock] at hj; omega
theorem infoIB : (Try.prog.info? 3).map (fun i => (i.zero, i.size, i.bytes)) = some (some (Value.int .i64 0), 1, 8) := by kernel_rfl
theorem owns_below {w w' : World} {base n k : Nat} {v : Value} {xs : List Value} (h : w.ownsRow base 3 1 v k xs) (hb : Below w.heap.size w w') (_ : n ≤ base) : w'.ownsRow base 3 1 v k xs := by
  refine ⟨h.1, ?_⟩
  rcases h.2 with h0 | ⟨g, cap, cur, hv, hbs, hg, r⟩
  · exact .inl h0
  · exact .inr ⟨g, cap, cur, hv, hbs, (hb.block g (Array.getElem?_eq_some_iff.1 hg).1).trans hg, r⟩

set_option maxRecDepth 100000 in
set_option maxHeartbeats 2000000 in
theorem implblocksOf (Rn : Nat) (hR2 : Rn ≤ 1000) (C : Int) (ac : Option Addr) (cc : Nat) (gs : List GC) (hc : ∀ row, crossI gs row = crossS gs row) (w : World) {z : Nat} (h : GsAt w z (.slice ac gs.length cc) gs) :
    Calls Try.prog 54 #[.agg #[.int .i64 (Rn : Int), .int .i64 C, .slice ac gs.length cc]] w fun e w' => ∃ v, e = .returned v ∧ RowI w' w.heap.size w'.heap.size v (blocksTo gs Rn) ∧ Below w.heap.size w w' := by
  obtain ⟨_, _, _, hlen⟩ := At.form h
  unfold maxLen at hlen
  obtain ⟨i0, hi, hz0, hz1, hz2⟩ := info_parts infoIB
  obtain ⟨w1, hw1⟩ : ∃ w1, w.alloc (.cells #[.int .i64 (Rn : Int), .int .i64 C, .slice ac gs.length cc] 42) = w1 := ⟨_, rfl⟩
  have K1 : Hid (Below w.heap.size w w1) := by rw [Hid, ← hw1]; exact k_alloc (Below.refl _ _) _
  have X1 : Hid (w1.heap[w.heap.size]? = some (.cells #[.int .i64 (Rn : Int), .int .i64 C, .slice ac gs.length cc] 42)) := by rw [Hid, ← hw1]; exact newestB _ _
  have hs1 : w.heap.size < w1.heap.size := by rw [← hw1]; simp
  have H := Hid.intro h
  have HC := Hid.intro hc
  clear h hc
  go_enter Try.func54, Try.ntmps54
  go_upto_region 2 with fail
  clear hw1
  have g0 : w1.cell? ⟨w.heap.size, 0, none⟩ = some (.int .i64 (Rn : Int)) := cellB X1.out
  go_wp2_with fail
  go_loopw [7, 3] (fun i v W => ∃ (k : Nat) (vb : Value), k ≤ Rn ∧ i = .int .i64 k ∧ v = vb ∧ Hid (W.ownsRow w1.heap.size 3 1 vb (blocksTo gs k).length ((blocksTo gs k).map (Value.int .i64))) ∧ Hid (Below w.heap.size w W) ∧ Hid (W.heap[w.heap.size]? = some (.cells #[.int .i64 (Rn : Int), .int .i64 C, .slice ac gs.length cc] 42)) ∧ w1.heap.size ≤ W.heap.size) (fun i _ _ => Rn - (intOf i).toNat)
  case atStart => exact ⟨0, _, Nat.zero_le _, rfl, rfl, ⟨by simp, .inl ⟨rfl, rfl⟩⟩, K1, X1, Nat.le_refl _⟩
  case round =>
    obtain ⟨k, vb, hk, rfl, rfl, HO, HB, HX, hsr⟩ := hrel
    have g0' : wr.cell? ⟨w.heap.size, 0, none⟩ = some (.int .i64 (Rn : Int)) := cellB HX.out
    have g1 : wr.cell? ⟨w.heap.size, 1, none⟩ = some (.int .i64 C) := cellB HX.out
    have g2 : wr.cell? ⟨w.heap.size, 2, none⟩ = some (.slice ac gs.length cc) := cellB HX.out
    by_cases hlt : k < Rn
    · have KI := Hid.intro (isCrossed_any (Rn : Int) C ac cc gs (k : Int) ⟨by omega, by omega⟩ wr (H.out.kept HB.out))
      rw [HC.out] at KI
      have hbl := blocksTo_len gs k
      cases h1 : crossS gs (k : Int) with
      | true =>
        have HS := Hid.intro (blocksTo_out h1)
        rw [h1] at KI
        clear h1
        go_wp2_with fail
        refine KI.out.mono ?_
        rintro e w2 ⟨rfl, hb2⟩
        have HO2 := Hid.intro (owns_below HO.out hb2 (Nat.le_refl _))
        have HB2 := Hid.intro (k_trans HB.out hb2)
        have HX2 := Hid.intro ((hb2.block w.heap.size (by omega)).trans HX.out)
        have hs2 := Nat.le_trans hsr hb2.size
        clear hb2
        go_wp2
        go_roundw
        case rel => exact ⟨k + 1, _, by omega, by go_num, rfl, by rw [HS.out]; exact HO2, HB2, HX2, hs2⟩
        case measure => simp [intOf]; omega
      | false =>
        have HS := Hid.intro (blocksTo_in h1)
        rw [h1] at KI
        clear h1
        go_wp2_with fail
        refine KI.out.mono ?_
        rintro e w2 ⟨rfl, hb2⟩
        have hO2 := owns_below HO.out hb2 (Nat.le_refl _)
        have HB2 := Hid.intro (k_trans HB.out hb2)
        have HX2 := Hid.intro ((hb2.block w.heap.size (by omega)).trans HX.out)
        have hs2 := Nat.le_trans hsr hb2.size
        clear hb2 HO
        go_wp2_with (at_builtin; refine wpList_append_own _ rfl _ _ 58 rfl w1.heap.size 3 i0 (.int .i64 0) 1 8 Try.underlying58 hi hz0 hz1 hz2 rfl (by decide) _ _ _ rfl (hO2.alloc _) ⟨w2.heap.size, 0, none⟩ 1 1 [.int .i64 (k : Int)] rfl rfl ?c1 ?c2 ?c3 ?c4 ?c5 ?_)
        case c1 =>
          intro i u hi
          match i, hi with
          | 0, hi => simp at hi; subst hi; simp [Addr.add]
        case c2 => intro u hu; simp at hu; subst hu; rfl
        case c3 => unfold maxLen; omega
        case c4 => omega
        case c5 => simp; omega
        intro v' w5 hown' hgrow' _
        have hne := own_neI hO2 hs1
        have HB5 : Hid (Below w.heap.size w w5) := (k_alloc HB2.out _).grown hgrow' (by simp; omega) (fun j e => by have := own_ge hO2 e; omega)
        have HX5 : Hid (w5.heap[w.heap.size]? = _) := Hid.intro ((hgrow'.block w.heap.size (by simp; omega) hne).trans ((Below.heap_alloc _ _ _ (by omega)).trans HX2.out))
        have hs5 : w1.heap.size ≤ w5.heap.size := by have := hgrow'.size; simp at this; omega
        have HO5 : Hid (w5.ownsRow w1.heap.size 3 1 v' (blocksTo gs (k + 1)).length ((blocksTo gs (k + 1)).map (Value.int .i64))) := Hid.intro (by rw [HS.out]; simpa using hown')
        obtain ⟨g', cap', rfl⟩ := Joins.ownsRow_form hown' (by omega)
        clear hown' hgrow' hO2 hne
        go_wp2
        go_roundw
        case rel => exact ⟨k + 1, _, by omega, by go_num, rfl, HO5, HB5, HX5, hs5⟩
        case measure => simp [intOf]; omega
    · obtain rfl : k = Rn := by omega
      go_wp2
      go_ret
      refine ⟨_, rfl, ?_, HB.out⟩
      exact (RowI.of_owns HO.out).base (by omega) (Nat.le_refl _)

end Go.Proofs.Ytggmjiddadjilal
namespace Go.Proofs.Ytggmjiddadjilal
open Go.RowKit

set_option maxRecDepth 100000 in
set_option maxHeartbeats 1000000 in
theorem boundsOk_any (R C : Int) (ac : Option Addr) (n cc : Nat) (w : World) :
    Calls Try.prog 67 #[.agg #[.int .i64 R, .int .i64 C, .slice ac n cc]] w fun e w' => e = .returned (.bool (boundsB R C n)) ∧ Below w.heap.size w w' := by
  cases h1 : inB R 1 8 with
  | false =>
    have HE : Hid (boundsB R C n = false) := by simp only [boundsB, h1, Bool.false_and]; exact trivial
    have K1 := Hid.intro (within_any R 1 8)
    rw [h1] at K1
    go_enter Try.func67, Try.ntmps67
    go_wp2_with fail
    refine (K1.out _).mono ?_
    rintro e w1 ⟨rfl, rfl⟩
    go_wp2
    go_ret
    exact ⟨retB HE.out.symm, k_alloc (Below.refl _ _) _⟩
  | true =>
    cases h2 : inB C 1 94 with
    | false =>
      have HE : Hid (boundsB R C n = false) := by simp only [boundsB, h2, Bool.false_and, Bool.and_false]; exact trivial
      have K1 := Hid.intro (within_any R 1 8)
      have K2 := Hid.intro (within_any C 1 94)
      rw [h1] at K1
      rw [h2] at K2
      go_enter Try.func67, Try.ntmps67
      go_wp2_with fail
      refine (K1.out _).mono ?_
      rintro e w1 ⟨rfl, rfl⟩
      go_wp2_with fail
      refine (K2.out _).mono ?_
      rintro e w1 ⟨rfl, rfl⟩
      go_wp2
      go_ret
      exact ⟨retB HE.out.symm, k_alloc (Below.refl _ _) _⟩
    | true =>
      have HE : Hid (boundsB R C n = decide ((n : Int) ≤ 40)) := by
        show boundsB R C n = _
        simp only [boundsB, h1, h2, Bool.true_and]
        exact decide_eq_decide.2 (by omega)
      have K1 := Hid.intro (within_any R 1 8)
      have K2 := Hid.intro (within_any C 1 94)
      rw [h1] at K1
      rw [h2] at K2
      go_enter Try.func67, Try.ntmps67
      go_wp2_with fail
      refine (K1.out _).mono ?_
      rintro e w1 ⟨rfl, rfl⟩
      go_wp2_with fail
      refine (K2.out _).mono ?_
      rintro e w1 ⟨rfl, rfl⟩
      go_wp2
      go_ret
      exact ⟨retB HE.out.symm, k_alloc (Below.refl _ _) _⟩

set_option maxRecDepth 100000 in
set_option maxHeartbeats 2000000 in
theorem cellFits_any (R C : Int) (v : Value) (x : GC) (hx : GOk x) (hR : 1 ≤ R ∧ R ≤ 8) (hC : 1 ≤ C ∧ C ≤ 94) (w : World) :
    Calls Try.prog 68 #[.agg #[.int .i64 R, .int .i64 C, v], .agg #[.int .i64 x.row, .int .i64 x.col, .int .i64 x.rows, .int .i64 x.cols, .int .i64 x.ins]] w fun e w' => e = .returned (.bool (fitsB R C x)) ∧ Below w.heap.size w w' := by
  obtain ⟨b0, b1, b2, b3, b4⟩ := hx
  unfold I64 at b0 b1 b2 b3 b4
  have K1 := Hid.intro (within_any x.row 0 (R - 1))
  have K2 := Hid.intro (within_any x.rows 1 (R - x.row))
  have K3 := Hid.intro (within_any x.col 0 (C - 1))
  have K4 := Hid.intro (within_any x.cols 1 (C - x.col))
  have K5 := Hid.intro (within_any x.ins 0 4)
  have p1 : IntKind.i64.wrap (R - 1) = R - 1 := by rw [IntKind.wrap_i64]; omega
  have p3 : IntKind.i64.wrap (C - 1) = C - 1 := by rw [IntKind.wrap_i64]; omega
  cases h1 : inB x.row 0 (R - 1) with
  | false =>
    rw [h1] at K1
    have HE : Hid (fitsB R C x = false) := by
      show fitsB R C x = false
      simp only [fitsB, h1, Bool.false_and]
    go_enter Try.func68, Try.ntmps68
    go_wp2_with fail
    refine (K1.out _).mono ?_
    rintro e w1 ⟨rfl, rfl⟩
    go_wp2
    go_ret
    exact ⟨retB HE.out.symm, k_alloc (k_alloc (Below.refl _ _) _) _⟩
  | true =>
    rw [h1] at K1
    have p2 : IntKind.i64.wrap (R - x.row) = R - x.row := by
      have := of_decide_eq_true h1
      rw [IntKind.wrap_i64]; omega
    cases h2 : inB x.rows 1 (R - x.row) with
    | false =>
      rw [h2] at K2
      have HE : Hid (fitsB R C x = false) := by
        show fitsB R C x = false
        simp only [fitsB, h2, Bool.false_and, Bool.and_false]
      go_enter Try.func68, Try.ntmps68
      go_wp2_with fail
      refine (K1.out _).mono ?_
      rintro e w1 ⟨rfl, rfl⟩
      go_wp2_with fail
      refine (K2.out _).mono ?_
      rintro e w1 ⟨rfl, rfl⟩
      go_wp2
      go_ret
      exact ⟨retB HE.out.symm, k_alloc (k_alloc (Below.refl _ _) _) _⟩
    | true =>
      rw [h2] at K2
      cases h3 : inB x.col 0 (C - 1) with
      | false =>
        rw [h3] at K3
        have HE : Hid (fitsB R C x = false) := by
          show fitsB R C x = false
          simp only [fitsB, h3, Bool.false_and, Bool.and_false]
        go_enter Try.func68, Try.ntmps68
        go_wp2_with fail
        refine (K1.out _).mono ?_
        rintro e w1 ⟨rfl, rfl⟩
        go_wp2_with fail
        refine (K2.out _).mono ?_
        rintro e w1 ⟨rfl, rfl⟩
        go_wp2_with fail
        refine (K3.out _).mono ?_
        rintro e w1 ⟨rfl, rfl⟩
        go_wp2
        go_ret
        exact ⟨retB HE.out.symm, k_alloc (k_alloc (Below.refl _ _) _) _⟩
      | true =>
        rw [h3] at K3
        have p4 : IntKind.i64.wrap (C - x.col) = C - x.col := by
          have := of_decide_eq_true h3
          rw [IntKind.wrap_i64]; omega
        cases h4 : inB x.cols 1 (C - x.col) with
        | false =>
          rw [h4] at K4
          have HE : Hid (fitsB R C x = false) := by
            show fitsB R C x = false
            simp only [fitsB, h4, Bool.false_and, Bool.and_false]
          go_enter Try.func68, Try.ntmps68
          go_wp2_with fail
          refine (K1.out _).mono ?_
          rintro e w1 ⟨rfl, rfl⟩
          go_wp2_with fail
          refine (K2.out _).mono ?_
          rintro e w1 ⟨rfl, rfl⟩
          go_wp2_with fail
          refine (K3.out _).mono ?_
          rintro e w1 ⟨rfl, rfl⟩
          go_wp2_with fail
          refine (K4.out _).mono ?_
          rintro e w1 ⟨rfl, rfl⟩
          go_wp2
          go_ret
          exact ⟨retB HE.out.symm, k_alloc (k_alloc (Below.refl _ _) _) _⟩
        | true =>
          rw [h4] at K4
          cases h5 : inB x.ins 0 4 with
          | false =>
            rw [h5] at K5
            have HE : Hid (fitsB R C x = false) := by
              show fitsB R C x = false
              simp only [fitsB, h5, Bool.and_false]
            go_enter Try.func68, Try.ntmps68
            go_wp2_with fail
            refine (K1.out _).mono ?_
            rintro e w1 ⟨rfl, rfl⟩
            go_wp2_with fail
            refine (K2.out _).mono ?_
            rintro e w1 ⟨rfl, rfl⟩
            go_wp2_with fail
            refine (K3.out _).mono ?_
            rintro e w1 ⟨rfl, rfl⟩
            go_wp2_with fail
            refine (K4.out _).mono ?_
            rintro e w1 ⟨rfl, rfl⟩
            go_wp2_with fail
            refine (K5.out _).mono ?_
            rintro e w1 ⟨rfl, rfl⟩
            go_wp2
            go_ret
            exact ⟨retB HE.out.symm, k_alloc (k_alloc (Below.refl _ _) _) _⟩
          | true =>
            rw [h5] at K5
            have HE : Hid (fitsB R C x = true) := by
              show fitsB R C x = true
              simp only [fitsB, h1, h2, h3, h4, h5, Bool.and_self]
            go_enter Try.func68, Try.ntmps68
            go_wp2_with fail
            refine (K1.out _).mono ?_
            rintro e w1 ⟨rfl, rfl⟩
            go_wp2_with fail
            refine (K2.out _).mono ?_
            rintro e w1 ⟨rfl, rfl⟩
            go_wp2_with fail
            refine (K3.out _).mono ?_
            rintro e w1 ⟨rfl, rfl⟩
            go_wp2_with fail
            refine (K4.out _).mono ?_
            rintro e w1 ⟨rfl, rfl⟩
            go_wp2_with fail
            refine (K5.out _).mono ?_
            rintro e w1 ⟨rfl, rfl⟩
            go_wp2
            go_ret
            exact ⟨retB HE.out.symm, k_alloc (k_alloc (Below.refl _ _) _) _⟩
end Go.Proofs.Ytggmjiddadjilal
