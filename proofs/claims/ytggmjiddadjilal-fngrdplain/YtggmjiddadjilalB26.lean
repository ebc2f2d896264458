/-
  PROVED HERE: what the laws' own pwPlain answers at a drawn table: it made plain, in memory of its own; nothing that was in memory is turned. Also: what the model's GrdOf answers at a drawn table: its cells at their places, or nothing where it is not ok; nothing that was in memory is turned.
-/
import Derived.Test.YtggmjiddadjilalB25
import Derived.Test.YtggmjiddadjilalB20
import Derived.Test.YtggmjiddadjilalB21
import Derived.Test.YtggmjiddadjilalB12
import Derived.Test.YtggmjiddadjilalB17
import Derived.Test.YtggmjiddadjilalB15
import Derived.Test.YtggmjiddadjilalB13
namespace Go.Proofs.Ytggmjiddadjilal
open Go.RowKit

theorem elevenP {w : World} {g : Nat} {x0 x1 x2 x3 x4 x5 x6 x7 x8 x9 x10 : Value} {t : TypeId} (h : w.heap[g]? = some (.cells #[x0, x1, x2, x3, x4, x5, x6, x7, x8, x9, x10] t)) :
    w.cell? ⟨g, 0, none⟩ = some x0 ∧ w.cell? ⟨g, 1, none⟩ = some x1 ∧ w.cell? ⟨g, 2, none⟩ = some x2 ∧ w.cell? ⟨g, 3, none⟩ = some x3 ∧ w.cell? ⟨g, 4, none⟩ = some x4 ∧ w.cell? ⟨g, 5, none⟩ = some x5 ∧ w.cell? ⟨g, 6, none⟩ = some x6 ∧ w.cell? ⟨g, 7, none⟩ = some x7 ∧ w.cell? ⟨g, 8, none⟩ = some x8 ∧ w.cell? ⟨g, 9, none⟩ = some x9 ∧ w.cell? ⟨g, 10, none⟩ = some x10 :=
  ⟨Joins.cell_of_block h 0, Joins.cell_of_block h 1, Joins.cell_of_block h 2, Joins.cell_of_block h 3, Joins.cell_of_block h 4, Joins.cell_of_block h 5, Joins.cell_of_block h 6, Joins.cell_of_block h 7, Joins.cell_of_block h 8, Joins.cell_of_block h 9, Joins.cell_of_block h 10⟩
theorem fiveP {w : World} {g : Nat} {x0 x1 x2 x3 x4 : Value} {t : TypeId} (h : w.heap[g]? = some (.cells #[x0, x1, x2, x3, x4] t)) :
    (w.cell? ⟨g, 0, none⟩ = some x0 ∧ w.cell? ⟨g, 1, none⟩ = some x1 ∧ w.cell? ⟨g, 2, none⟩ = some x2 ∧ w.cell? ⟨g, 3, none⟩ = some x3 ∧ w.cell? ⟨g, 4, none⟩ = some x4) ∧ w.frozen? ⟨g, 0, none⟩ = false ∧ w.frozen? ⟨g, 1, none⟩ = false ∧ w.frozen? ⟨g, 2, none⟩ = false ∧ w.frozen? ⟨g, 3, none⟩ = false ∧ w.frozen? ⟨g, 4, none⟩ = false :=
  ⟨⟨cellB h, cellB h, cellB h, cellB h, cellB h⟩, freeB h, freeB h, freeB h, freeB h, freeB h⟩
theorem moreP {w : World} {g : Nat} {o : Obj} (h : w.heap[g]? = some o) (q : Obj) : (w.alloc q).heap[g]? = some o := (Below.heap_alloc _ _ _ (Array.getElem?_eq_some_iff.1 h).1).trans h
/-- what pwPlain has in memory between its rounds -/
structure PlW (w : World) (ac ar : Option Addr) (cc cr : Nat) (t : T) (vr : Value) (ur : List (Value × R)) (W : World) : Prop where
  bel : Below w.heap.size w W
  box : W.heap[w.heap.size]? = some (.cells #[.slice ac t.cols.length cc, .int .i64 t.head, .int .i64 t.foot, .slice ar t.rows.length cr, .int .i64 t.gap] 37)
  res : W.heap[w.heap.size + 1]? = some (.cells #[.slice none 0 0, .int .i64 0, .int .i64 0, .slice none 0 0, .int .i64 0] 37)
  xb : W.heap[w.heap.size + 1 + 1]? = some (.cells #[.slice (some ⟨w.heap.size + 1 + 1 + 1, 0, none⟩) 0 0, .int .i64 t.head, .int .i64 t.foot, vr, .int .i64 t.gap] 37)
  col : W.heap[w.heap.size + 1 + 1 + 1]? = some (.cells #[] 76)
  rows : OwnR W (w.heap.size + 1 + 1) vr ur
theorem PlW.kept {w : World} {ac ar : Option Addr} {cc cr : Nat} {t : T} {vr : Value} {ur : List (Value × R)} {W W' : World} (h : PlW w ac ar cc cr t vr ur W) (k : Below W.heap.size W W') : PlW w ac ar cc cr t vr ur W' :=
  ⟨k_trans h.bel k, (k.block _ (Array.getElem?_eq_some_iff.1 h.box).1).trans h.box, (k.block _ (Array.getElem?_eq_some_iff.1 h.res).1).trans h.res, (k.block _ (Array.getElem?_eq_some_iff.1 h.xb).1).trans h.xb, (k.block _ (Array.getElem?_eq_some_iff.1 h.col).1).trans h.col, h.rows.kept k⟩
theorem plStart (w : World) (ac ar : Option Addr) (cc cr : Nat) (t : T) : PlW w ac ar cc cr t (.slice (some ⟨w.heap.size + 1 + 1 + 1 + 1, 0, none⟩) 0 0) [] (((((w.alloc (.cells #[.slice ac t.cols.length cc, .int .i64 t.head, .int .i64 t.foot, .slice ar t.rows.length cr, .int .i64 t.gap] 37)).alloc (.cells #[.slice none 0 0, .int .i64 0, .int .i64 0, .slice none 0 0, .int .i64 0] 37)).alloc (.cells #[.slice (some ⟨w.heap.size + 1 + 1 + 1, 0, none⟩) 0 0, .int .i64 t.head, .int .i64 t.foot, .slice (some ⟨w.heap.size + 1 + 1 + 1 + 1, 0, none⟩) 0 0, .int .i64 t.gap] 37)).alloc (.cells #[] 76)).alloc (.cells #[] 51)) := by
  have s1 : (w.alloc (.cells #[.slice ac t.cols.length cc, .int .i64 t.head, .int .i64 t.foot, .slice ar t.rows.length cr, .int .i64 t.gap] 37)).heap.size = w.heap.size + 1 := by simp
  have s2 : ((w.alloc (.cells #[.slice ac t.cols.length cc, .int .i64 t.head, .int .i64 t.foot, .slice ar t.rows.length cr, .int .i64 t.gap] 37)).alloc (.cells #[.slice none 0 0, .int .i64 0, .int .i64 0, .slice none 0 0, .int .i64 0] 37)).heap.size = w.heap.size + 1 + 1 := by simp
  have s3 : (((w.alloc (.cells #[.slice ac t.cols.length cc, .int .i64 t.head, .int .i64 t.foot, .slice ar t.rows.length cr, .int .i64 t.gap] 37)).alloc (.cells #[.slice none 0 0, .int .i64 0, .int .i64 0, .slice none 0 0, .int .i64 0] 37)).alloc (.cells #[.slice (some ⟨w.heap.size + 1 + 1 + 1, 0, none⟩) 0 0, .int .i64 t.head, .int .i64 t.foot, .slice (some ⟨w.heap.size + 1 + 1 + 1 + 1, 0, none⟩) 0 0, .int .i64 t.gap] 37)).heap.size = w.heap.size + 1 + 1 + 1 := by simp
  have s4 : ((((w.alloc (.cells #[.slice ac t.cols.length cc, .int .i64 t.head, .int .i64 t.foot, .slice ar t.rows.length cr, .int .i64 t.gap] 37)).alloc (.cells #[.slice none 0 0, .int .i64 0, .int .i64 0, .slice none 0 0, .int .i64 0] 37)).alloc (.cells #[.slice (some ⟨w.heap.size + 1 + 1 + 1, 0, none⟩) 0 0, .int .i64 t.head, .int .i64 t.foot, .slice (some ⟨w.heap.size + 1 + 1 + 1 + 1, 0, none⟩) 0 0, .int .i64 t.gap] 37)).alloc (.cells #[] 76)).heap.size = w.heap.size + 1 + 1 + 1 + 1 := by simp
  have n1 := newestB (w.alloc (.cells #[.slice ac t.cols.length cc, .int .i64 t.head, .int .i64 t.foot, .slice ar t.rows.length cr, .int .i64 t.gap] 37)) (.cells #[.slice none 0 0, .int .i64 0, .int .i64 0, .slice none 0 0, .int .i64 0] 37)
  have n2 := newestB ((w.alloc (.cells #[.slice ac t.cols.length cc, .int .i64 t.head, .int .i64 t.foot, .slice ar t.rows.length cr, .int .i64 t.gap] 37)).alloc (.cells #[.slice none 0 0, .int .i64 0, .int .i64 0, .slice none 0 0, .int .i64 0] 37)) (.cells #[.slice (some ⟨w.heap.size + 1 + 1 + 1, 0, none⟩) 0 0, .int .i64 t.head, .int .i64 t.foot, .slice (some ⟨w.heap.size + 1 + 1 + 1 + 1, 0, none⟩) 0 0, .int .i64 t.gap] 37)
  have n3 := newestB (((w.alloc (.cells #[.slice ac t.cols.length cc, .int .i64 t.head, .int .i64 t.foot, .slice ar t.rows.length cr, .int .i64 t.gap] 37)).alloc (.cells #[.slice none 0 0, .int .i64 0, .int .i64 0, .slice none 0 0, .int .i64 0] 37)).alloc (.cells #[.slice (some ⟨w.heap.size + 1 + 1 + 1, 0, none⟩) 0 0, .int .i64 t.head, .int .i64 t.foot, .slice (some ⟨w.heap.size + 1 + 1 + 1 + 1, 0, none⟩) 0 0, .int .i64 t.gap] 37)) (.cells #[] 76)
  have n4 := newestB ((((w.alloc (.cells #[.slice ac t.cols.length cc, .int .i64 t.head, .int .i64 t.foot, .slice ar t.rows.length cr, .int .i64 t.gap] 37)).alloc (.cells #[.slice none 0 0, .int .i64 0, .int .i64 0, .slice none 0 0, .int .i64 0] 37)).alloc (.cells #[.slice (some ⟨w.heap.size + 1 + 1 + 1, 0, none⟩) 0 0, .int .i64 t.head, .int .i64 t.foot, .slice (some ⟨w.heap.size + 1 + 1 + 1 + 1, 0, none⟩) 0 0, .int .i64 t.gap] 37)).alloc (.cells #[] 76)) (.cells #[] 51)
  rw [s1] at n1
  rw [s2] at n2
  rw [s3] at n3
  rw [s4] at n4
  exact ⟨k_alloc (k_alloc (k_alloc (k_alloc (k_alloc (Below.refl _ _) _) _) _) _) _, moreP (moreP (moreP (moreP (newestB _ _) _) _) _) _, moreP (moreP (moreP n1 _) _) _, moreP (moreP n2 _) _, moreP n3 _, ⟨rfl, .inr ⟨_, 0, #[], rfl, by omega, n4, Nat.le_refl _, Nat.zero_le _, rfl, rfl⟩⟩, (fun p hp => by cases hp), List.Pairwise.nil⟩
theorem take_map {α β : Type} (f : α → β) (d : α) {l : List α} {j : Nat} (h : j < l.length) : (l.take (j + 1)).map f = (l.take j).map f ++ [f (l.getD j d)] := by
  have e : l.getD j d = l[j] := by simp [List.getD, h]
  rw [List.take_succ_eq_append_getElem h, List.map_append, e]
  rfl

set_option maxRecDepth 100000 in
set_option maxHeartbeats 1000000 in
theorem pwPlain_any (ac ar : Option Addr) (cc cr : Nat) (t : T) (hD : Drawn t) (w : World) {z : Nat} (hr : RowsAt w z (.slice ar t.rows.length cr) t.rows) :
    Calls Try.prog 28 #[.agg #[.slice ac t.cols.length cc, .int .i64 t.head, .int .i64 t.foot, .slice ar t.rows.length cr, .int .i64 t.gap]] w fun e w' => ∃ a1 a2 c2, e = .returned (.agg #[.slice a1 0 0, .int .i64 t.head, .int .i64 t.foot, .slice a2 t.rows.length c2, .int .i64 t.gap]) ∧ OwnT w' w.heap.size (.slice a1 0 0) (.slice a2 t.rows.length c2) (plT t) ∧ Below w.heap.size w w' := by
  obtain ⟨i1, hi1, hy0, hy1, hy2⟩ := info_parts infoRown
  obtain ⟨i2, hi2, hx0, hx1, hx2⟩ := info_parts infoCelln
  have h9 := hD.rows
  have HRA := Hid.intro hr
  have HP0 := Hid.intro (plStart w ac ar cc cr t)
  have HC5 : Hid (∀ q, (t.rows.getD q dR).cells.length ≤ 5) := Hid.intro (fun q => by
    obtain ⟨k, hk⟩ := hD.few
    have := hk q
    split at this <;> omega)
  clear hr hD
  go_enter Try.func28, Try.ntmps28
  go_upto_region 4 with fail
  generalize ((((w.alloc (.cells #[.slice ac t.cols.length cc, .int .i64 t.head, .int .i64 t.foot, .slice ar t.rows.length cr, .int .i64 t.gap] 37)).alloc (.cells #[.slice none 0 0, .int .i64 0, .int .i64 0, .slice none 0 0, .int .i64 0] 37)).alloc (.cells #[.slice (some ⟨w.heap.size + 1 + 1 + 1, 0, none⟩) 0 0, .int .i64 t.head, .int .i64 t.foot, .slice (some ⟨w.heap.size + 1 + 1 + 1 + 1, 0, none⟩) 0 0, .int .i64 t.gap] 37)).alloc (.cells #[] 76)).alloc (.cells #[] 51) = W1 at HP0 ⊢
  go_wp2_with fail
  go_loopw [4] (fun k W => ∃ (q : Nat) (vr : Value) (ur : List (Value × R)), k = .int .i64 (q : Int) ∧ q ≤ t.rows.length ∧ ur.map (·.2) = (t.rows.take q).map plR ∧ Hid (PlW w ac ar cc cr t vr ur W)) (fun k _ => t.rows.length - (intOf k).toNat)
  case atStart => exact ⟨0, _, [], rfl, Nat.zero_le _, rfl, HP0⟩
  case round =>
    obtain ⟨q, vr, ur, rfl, hq, hur, HP⟩ := hrel
    have hul : ur.length = q := by
      have := congrArg List.length hur
      rw [List.length_map, List.length_map, List.length_take] at this
      omega
    have HUR := Hid.intro hur
    clear hur HP0
    obtain ⟨⟨b0, b1, b2, b3, b4⟩, _⟩ := fiveP HP.out.box
    by_cases hlt : q < t.rows.length
    · obtain ⟨g, off, cap', e', hc1, hc2, hbl, u, hu, hwh, hcs⟩ := At.get (HRA.out.kept HP.out.bel) hlt
      simp only [Value.slice.injEq, true_and] at e'
      obtain ⟨rfl, rfl⟩ := e'
      have h5 := HC5.out q
      have HRW : Hid ((t.rows.take (q + 1)).map plR = (t.rows.take q).map plR ++ [plR (t.rows.getD q dR)]) := Hid.intro (take_map plR dR hlt)
      obtain ⟨row, hrow⟩ : ∃ row, t.rows.getD q dR = row := ⟨_, rfl⟩
      rw [hrow] at hwh hcs HRW h5
      obtain ⟨cs, wh⟩ := row
      simp only at hwh hcs h5
      obtain ⟨ca, ccp, rfl, hcm⟩ := At.form hcs
      unfold maxLen at hc2 hcm
      have HCS := Hid.intro hcs
      have HU0 := Hid.intro hu
      clear hcs hrow
      obtain ⟨Wo, hWo⟩ : ∃ Wo, Wo = wr := ⟨_, rfl⟩
      subst hWo
      have hltB := (Array.getElem?_eq_some_iff.1 HP.out.box).1
      go_upto_region 8 with fail
      have KA0 := Hid.intro (k_alloc (Below.refl Wo.heap.size Wo) (.cells #[.slice none 0 0, .bool wh] 51))
      have HX0 := Hid.intro (newestB Wo (.cells #[.slice none 0 0, .bool wh] 51))
      generalize Wo.alloc (.cells #[.slice none 0 0, .bool wh] 51) = W2 at KA0 HX0 ⊢
      obtain ⟨rb, hrb⟩ : ∃ rb, Wo.heap.size = rb := ⟨_, rfl⟩
      rw [hrb] at HX0 ⊢
      have HRB := Hid.intro hrb
      clear hrb hu hwh b0 b1 b2 b3 b4
      go_wp2_with fail
      go_loopw [6] (fun i W => ∃ (j : Nat) (vu : Value), i = .int .i64 (j : Int) ∧ j ≤ cs.length ∧ Hid (Below Wo.heap.size Wo W) ∧ Hid (W.heap[rb]? = some (.cells #[vu, .bool wh] 51)) ∧ Hid (OwnC W Wo.heap.size vu ((cs.take j).map plC))) (fun i _ => cs.length - (intOf i).toNat)
      case atStart => exact ⟨0, _, rfl, Nat.zero_le _, KA0, HX0, ⟨rfl, .inl ⟨rfl, rfl⟩⟩⟩
      case round =>
        obtain ⟨j, vu, rfl, hj, HB, HX, HU⟩ := hrel
        clear KA0 HX0
        obtain ⟨⟨d0, d1, d2, d3, d4⟩, _⟩ := fiveP ((HB.out.block _ hltB).trans HP.out.box)
        have hu' := (HB.out.cell (p := ⟨g, off + q * 2, none⟩) hbl).trans HU0.out
        have hbw := HB.out.size
        have hrl := (Array.getElem?_eq_some_iff.1 HX.out).1
        by_cases hjl : j < cs.length
        · obtain ⟨g2, off2, cap2, e2, hd1, hd2, hbl2, hx, hxs⟩ := At.get (HCS.out.kept HB.out) hjl
          simp only [Value.slice.injEq, true_and] at e2
          obtain ⟨rfl, rfl⟩ := e2
          unfold maxLen at hd2
          have HCT : Hid ((cs.take (j + 1)).map plC = (cs.take j).map plC ++ [plC (cs.getD j dC)]) := Hid.intro (take_map plC dC hjl)
          obtain ⟨x, ex⟩ : ∃ x, cs.getD j dC = x := ⟨_, rfl⟩
          rw [ex] at hx hxs HCT
          obtain ⟨v0, v1, v2, v3, v4, v5, v6, v7, v8, v9, v10⟩ := hx
          have hn : ((cs.take j).map plC).length = j := by rw [List.length_map, List.length_take]; omega
          have hO : wr.ownsRow Wo.heap.size 29 11 vu j (((cs.take j).map plC).flatMap cellVs) := by
            have h := HU.out
            unfold OwnC at h
            rw [hn] at h
            exact h
          obtain ⟨va, vcp, rfl, _⟩ := row_form hO
          have HN := Hid.intro hn
          clear ex hxs hn
          go_upto_region 14 with fail
          have KA := k_alloc (Below.refl wr.heap.size wr) (.cells #[.string x.s, .int .i64 1, .int .i64 1, .int .i64 x.a1, .int .i64 x.b1, .int .i64 x.a2, .int .i64 x.b2, .int .i64 x.a3, .int .i64 x.b3, .int .i64 x.a4, .int .i64 x.b4] 29)
          have hX3 := newestB wr (.cells #[.string x.s, .int .i64 1, .int .i64 1, .int .i64 x.a1, .int .i64 x.b1, .int .i64 x.a2, .int .i64 x.b2, .int .i64 x.a3, .int .i64 x.b3, .int .i64 x.a4, .int .i64 x.b4] 29)
          have hR3 := (KA.block _ hrl).trans HX.out
          have hO3 := hO.alloc (.cells #[.string x.s, .int .i64 1, .int .i64 1, .int .i64 x.a1, .int .i64 x.b1, .int .i64 x.a2, .int .i64 x.b2, .int .i64 x.a3, .int .i64 x.b3, .int .i64 x.a4, .int .i64 x.b4] 29)
          have HB3 := Hid.intro (k_trans HB.out KA)
          have hrl3 : rb < (wr.alloc (.cells #[.string x.s, .int .i64 1, .int .i64 1, .int .i64 x.a1, .int .i64 x.b1, .int .i64 x.a2, .int .i64 x.b2, .int .i64 x.a3, .int .i64 x.b3, .int .i64 x.a4, .int .i64 x.b4] 29)).heap.size := (Array.getElem?_eq_some_iff.1 hR3).1
          clear v0 v1 v2 v3 v4 v5 v6 v7 v8 v9 v10 d0 d1 d2 d3 d4 hu' KA hO HU HX hrl
          generalize wr.alloc (.cells #[.string x.s, .int .i64 1, .int .i64 1, .int .i64 x.a1, .int .i64 x.b1, .int .i64 x.a2, .int .i64 x.b2, .int .i64 x.a3, .int .i64 x.b3, .int .i64 x.a4, .int .i64 x.b4] 29) = W3 at hX3 hR3 hO3 HB3 hrl3 ⊢
          obtain ⟨cb, hcb⟩ : ∃ cb, wr.heap.size = cb := ⟨_, rfl⟩
          rw [hcb] at hX3 ⊢
          clear hcb
          obtain ⟨p0, p1, p2, p3, p4, p5, p6, p7, p8, p9, p10⟩ := elevenP hX3
          have r0 : W3.cell? ⟨rb, 0, none⟩ = some (.slice va j vcp) := cellB hR3
          have hw3 := HB3.out.size
          have hO4 := hO3.alloc (.cells #[.string x.s, .int .i64 1, .int .i64 1, .int .i64 x.a1, .int .i64 x.b1, .int .i64 x.a2, .int .i64 x.b2, .int .i64 x.a3, .int .i64 x.b3, .int .i64 x.a4, .int .i64 x.b4] 29)
          have hR4 := moreP hR3 (.cells #[.string x.s, .int .i64 1, .int .i64 1, .int .i64 x.a1, .int .i64 x.b1, .int .i64 x.a2, .int .i64 x.b2, .int .i64 x.a3, .int .i64 x.b3, .int .i64 x.a4, .int .i64 x.b4] 29)
          have HB4 := Hid.intro (k_alloc HB3.out (.cells #[.string x.s, .int .i64 1, .int .i64 1, .int .i64 x.a1, .int .i64 x.b1, .int .i64 x.a2, .int .i64 x.b2, .int .i64 x.a3, .int .i64 x.b3, .int .i64 x.a4, .int .i64 x.b4] 29))
          have hXN := newestB W3 (.cells #[.string x.s, .int .i64 1, .int .i64 1, .int .i64 x.a1, .int .i64 x.b1, .int .i64 x.a2, .int .i64 x.b2, .int .i64 x.a3, .int .i64 x.b3, .int .i64 x.a4, .int .i64 x.b4] 29)
          go_wp2_with (at_builtin; refine wpList_append_own _ rfl _ _ 49 rfl Wo.heap.size 29 i2 _ 11 96 Try.underlying49 hi2 hx0 hx1 hx2 rfl (by decide) _ _ _ rfl hO4 ⟨W3.heap.size, 0, none⟩ 1 1 (cellVs (plC x)) rfl rfl (news_at hXN) (by simp [cellVs, plC, Value.oneCell']) (by unfold maxLen; omega) (by omega) (by simp; omega) ?_)
          intro v' wq hown' hg' _
          obtain ⟨ve, vq, rfl, _⟩ := row_form hown'
          have hR5 := blk_grown hR4 hg' (ne_of_own (row_ne_block hO4 hR4 (by decide)))
          have s0 : wq.cell? ⟨rb, 0, none⟩ = some (.slice va j vcp) := cellB hR5
          have sf : wq.frozen? ⟨rb, 0, none⟩ = false := freeB hR5
          have HB5 : Hid (Below Wo.heap.size Wo (wq.setCell ⟨rb, 0, none⟩ (.slice ve (j + 1) vq))) := Hid.intro ((HB4.out.grown hg' (by simp; omega) (fun b hb => (row_lt hO4 hb).1)).setCell (p := ⟨rb, 0, none⟩) (by show _ ≤ rb; have := HRB.out; omega) _)
          have HX5 : Hid ((wq.setCell ⟨rb, 0, none⟩ (.slice ve (j + 1) vq)).heap[rb]? = some (.cells #[.slice ve (j + 1) vq, .bool wh] 51)) := Hid.intro (setB hR5 _)
          have HU5 : Hid (OwnC (wq.setCell ⟨rb, 0, none⟩ (.slice ve (j + 1) vq)) Wo.heap.size (.slice ve (j + 1) vq) ((cs.take (j + 1)).map plC)) := Hid.intro (by
            unfold OwnC
            rw [HCT.out, List.length_append, HN.out, List.flatMap_append]
            have h := row_set hown' hR5 (by decide) (p := 0) (.slice ve (j + 1) vq)
            simpa using h)
          clear hown' hg' hR5 hO4 hR4 hXN hO3 hR3 hX3 HB3 HB4 p0 p1 p2 p3 p4 p5 p6 p7 p8 p9 p10 r0 HCT HN HB
          go_wp2
          go_roundw
          case rel => exact ⟨j + 1, _, by go_num, by omega, HB5, HX5, HU5⟩
          case measure => simp [intOf]; omega
        · obtain rfl : j = cs.length := by omega
          have HP6 := Hid.intro (HP.out.kept HB.out)
          have hUb : ∀ p ∈ ur, p.1.ownBlock = none ∨ p.1.ownBlock ≠ vu.ownBlock := fun p hp => by
            rcases hb : p.1.ownBlock with _ | b
            · exact .inl rfl
            · refine .inr (fun e => ?_)
              have h1 := (row_lt (HP.out.rows.cells p hp) hb).2
              have h2 := (row_lt HU.out e.symm).1
              omega
          rw [List.take_length] at HU
          have hcl : (cs.map plC).length = cs.length := List.length_map _
          obtain ⟨vra, vrc, rfl, _⟩ := row_form HP6.out.rows.own
          rw [hul] at HP6
          obtain ⟨⟨x0, x1, x2, x3, x4⟩, y0, y1, y2, y3, y4⟩ := fiveP HP6.out.xb
          have r0 : wr.cell? ⟨rb, 0, none⟩ = some vu := cellB HX.out
          have r1 : wr.cell? ⟨rb, 1, none⟩ = some (.bool wh) := cellB HX.out
          have hOR : wr.ownsRow (w.heap.size + 1 + 1) 51 2 (.slice vra q vrc) q (ur.flatMap rowVs) := by
            have h := HP6.out.rows.own
            rw [hul] at h
            exact h
          have HPA := Hid.intro (HP6.out.kept (k_alloc (Below.refl wr.heap.size wr) (.cells #[vu, .bool wh] 51)))
          have hXN := newestB wr (.cells #[vu, .bool wh] 51)
          have hOA := hOR.alloc (.cells #[vu, .bool wh] 51)
          have HUA := Hid.intro (HU.out.alloc (.cells #[vu, .bool wh] 51))
          have hv1 : vu.oneCell' = true := by
            obtain ⟨a, c, rfl, _⟩ := row_form HU.out
            rfl
          have hone : ∀ u ∈ [vu, .bool wh], u.oneCell' = true := fun u hu => by
            rcases List.mem_cons.1 hu with rfl | hu
            · exact hv1
            · rw [List.mem_singleton] at hu
              subst hu
              rfl
          have hszw := HP6.out.bel.size
          go_wp2_with (at_builtin; refine wpList_append_own _ rfl _ _ 35 rfl (w.heap.size + 1 + 1) 51 i1 _ 2 32 Try.underlying35 hi1 hy0 hy1 hy2 rfl (by decide) _ _ _ rfl hOA ⟨wr.heap.size, 0, none⟩ 1 1 [vu, .bool wh] rfl rfl (news_at hXN) hone (by unfold maxLen; omega) (by omega) (by simp; omega) ?_)
          intro v' wq hown' hg' _
          have HVe := Hid.intro (row_form hown')
          obtain ⟨ve, vq, rfl, _⟩ := HVe.out
          clear HVe
          have hXb := blk_grown HPA.out.xb hg' (ne_of_own (row_ne_block hOA HPA.out.xb (by decide)))
          have hBx := blk_grown HPA.out.box hg' (ne_of_own (row_ne_block hOA HPA.out.box (by decide)))
          have hRs := blk_grown HPA.out.res hg' (ne_of_own (row_ne_block hOA HPA.out.res (by decide)))
          have hCl := blk_grown HPA.out.col hg' (ne_of_own (row_ne_block hOA HPA.out.col (by decide)))
          have hwo : w.heap.size + 1 + 1 ≤ Wo.heap.size := Nat.le_of_lt (Array.getElem?_eq_some_iff.1 HP.out.xb).1
          have hrows : OwnR wq (w.heap.size + 1 + 1) (.slice ve (q + 1) vq) (ur ++ [(vu, (⟨cs.map plC, wh⟩ : R))]) := by
            refine OwnR.push (U := .slice vra q vrc) HPA.out.rows hg' ?_ (row_base HUA.out hwo) hUb
            rw [hul]
            exact hown'
          have x3' : wq.cell? ⟨w.heap.size + 1 + 1, 3, none⟩ = some (.slice vra q vrc) := cellB hXb
          have xf' : wq.frozen? ⟨w.heap.size + 1 + 1, 3, none⟩ = false := freeB hXb
          have HP8 : Hid (PlW w ac (some ⟨g, off, none⟩) cc cr t (.slice ve (q + 1) vq) (ur ++ [(vu, (⟨cs.map plC, wh⟩ : R))]) (wq.setCell ⟨w.heap.size + 1 + 1, 3, none⟩ (.slice ve (q + 1) vq))) := Hid.intro
            ⟨(HPA.out.bel.grown hg' (by simp; omega) (fun b hb => by have := (row_lt hOA hb).1; omega)).setCell (p := ⟨w.heap.size + 1 + 1, 3, none⟩) (by show w.heap.size ≤ w.heap.size + 1 + 1; omega) _,
             (Below.heap_setCell _ _ _ _ (by show w.heap.size ≠ w.heap.size + 1 + 1; omega)).trans hBx,
             (Below.heap_setCell _ _ _ _ (by show w.heap.size + 1 ≠ w.heap.size + 1 + 1; omega)).trans hRs,
             setB hXb _,
             (Below.heap_setCell _ _ _ _ (by show w.heap.size + 1 + 1 + 1 ≠ w.heap.size + 1 + 1; omega)).trans hCl,
             OwnR.set hrows hXb _⟩
          clear hown' hg' hXb hBx hRs hCl hrows hOA hXN hOR HPA HUA HP6 x0 x1 x2 x3 x4 y0 y1 y2 y3 y4 r0 r1 d0 d1 d2 d3 d4 hu' HP HX HU HB hUb
          go_wp2
          go_roundw
          case rel => exact ⟨q + 1, _, ur ++ [(vu, (⟨cs.map plC, wh⟩ : R))], by go_num, by omega, by rw [List.map_append, HUR.out, HRW.out]; rfl, HP8⟩
          case measure => simp [intOf]; omega
    · obtain rfl : q = t.rows.length := by omega
      have hurr := HUR.out
      rw [List.take_length] at hurr
      have HUF : Hid (ur.map (·.2) = (plT t).rows) := Hid.intro hurr
      obtain ⟨va, vc, rfl, _⟩ := row_form HP.out.rows.own
      rw [hul] at HP
      obtain ⟨⟨x0, x1, x2, x3, x4⟩, _⟩ := fiveP HP.out.xb
      obtain ⟨⟨z0, z1, z2, z3, z4⟩, y0, y1, y2, y3, y4⟩ := fiveP HP.out.res
      have hbk := st5_bk wr (w.heap.size + 1) (.slice (some ⟨w.heap.size + 1 + 1 + 1, 0, none⟩) 0 0) (.int .i64 t.head) (.int .i64 t.foot) (.slice va t.rows.length vc) (.int .i64 t.gap)
      have hlc := (Array.getElem?_eq_some_iff.1 HP.out.col).1
      have hsz := HP.out.bel.size
      have HC : Hid (OwnCol (st5 wr (w.heap.size + 1) (.slice (some ⟨w.heap.size + 1 + 1 + 1, 0, none⟩) 0 0) (.int .i64 t.head) (.int .i64 t.foot) (.slice va t.rows.length vc) (.int .i64 t.gap)) w.heap.size (.slice (some ⟨w.heap.size + 1 + 1 + 1, 0, none⟩) 0 0) (plT t).cols) := Hid.intro ⟨rfl, .inr ⟨_, 0, #[], rfl, by omega, (hbk.block _ hlc (by omega)).trans HP.out.col, Nat.le_refl _, Nat.zero_le _, rfl, rfl⟩⟩
      have HR : Hid (OwnR (st5 wr (w.heap.size + 1) (.slice (some ⟨w.heap.size + 1 + 1 + 1, 0, none⟩) 0 0) (.int .i64 t.head) (.int .i64 t.foot) (.slice va t.rows.length vc) (.int .i64 t.gap)) w.heap.size (.slice va t.rows.length vc) ur) := Hid.intro ((HP.out.rows.bk hbk (by omega)).base (by omega))
      have HBl : Hid (Below w.heap.size w (st5 wr (w.heap.size + 1) (.slice (some ⟨w.heap.size + 1 + 1 + 1, 0, none⟩) 0 0) (.int .i64 t.head) (.int .i64 t.foot) (.slice va t.rows.length vc) (.int .i64 t.gap))) := Hid.intro (HP.out.bel.trans (hbk.below (n := w.heap.size) hsz (by omega)))
      clear hbk HP hurr
      go_wp2
      exact bodyPost_ret (v := .agg #[.slice (some ⟨w.heap.size + 1 + 1 + 1, 0, none⟩) 0 0, .int .i64 t.head, .int .i64 t.foot, .slice va t.rows.length vc, .int .i64 t.gap]) (by simp [results, Try.results28, go_sem, z0, z1, z2, z3, z4]) rfl ⟨_, _, _, rfl, ⟨ur, HUF.out, HC.out, HR.out⟩, HBl.out⟩
end Go.Proofs.Ytggmjiddadjilal
namespace Go.Proofs.Ytggmjiddadjilal
open Go.RowKit

set_option maxRecDepth 100000 in
set_option maxHeartbeats 1000000 in
theorem specGrdOf (ac ar : Option Addr) (cc cr : Nat) (t : T) (hD : Drawn t) (w : World) {z : Nat} (hc : ColsAt w z (.slice ac t.cols.length cc) t.cols) (hr : RowsAt w z (.slice ar t.rows.length cr) t.rows) :
    Calls Try.prog 20 #[.agg #[.slice ac t.cols.length cc, .int .i64 t.head, .int .i64 t.foot, .slice ar t.rows.length cr, .int .i64 t.gap]] w fun e w' => ∃ vg, e = .returned (.agg #[.int .i64 (gOf t).rows, .int .i64 (gOf t).cols, vg]) ∧ OwnG w' w.heap.size vg (gOf t).cells ∧ Below w.heap.size w w' := by
  obtain ⟨W0, hW0⟩ : ∃ W0, (w.alloc (.cells #[.slice ac t.cols.length cc, .int .i64 t.head, .int .i64 t.foot, .slice ar t.rows.length cr, .int .i64 t.gap] 37)).alloc (.cells #[.int .i64 0, .int .i64 0, .slice none 0 0] 42) = W0 := ⟨_, rfl⟩
  have K0 : Below w.heap.size w W0 := by rw [← hW0]; exact k_alloc (k_alloc (Below.refl _ _) _) _
  have hz0 : W0.heap.size = w.heap.size + 2 := by rw [← hW0]; simp
  have T0 : W0.heap[w.heap.size]? = some (.cells #[.slice ac t.cols.length cc, .int .i64 t.head, .int .i64 t.foot, .slice ar t.rows.length cr, .int .i64 t.gap] 37) := by rw [← hW0]; exact (Below.heap_alloc _ _ _ (by simp)).trans (newestB _ _)
  have X0 : W0.heap[w.heap.size + 1]? = some (.cells #[.int .i64 0, .int .i64 0, .slice none 0 0] 42) := by
    have := newestB (w.alloc (.cells #[.slice ac t.cols.length cc, .int .i64 t.head, .int .i64 t.foot, .slice ar t.rows.length cr, .int .i64 t.gap] 37)) (.cells #[.int .i64 0, .int .i64 0, .slice none 0 0] 42)
    rw [hW0] at this
    simpa using this
  have KO := Hid.intro (specTblOk ac ar cc cr t W0 (hc.kept K0) (hr.kept K0))
  have HR := Hid.intro hr
  obtain ⟨⟨t0, t1, t2, t3, t4⟩, _⟩ := fiveT T0
  clear hc hr
  cases htk : tblB t with
  | false =>
    rw [htk] at KO
    have hg : gOf t = ⟨0, 0, []⟩ := by unfold gOf; rw [if_neg (by rw [htk]; simp)]
    have HG := Hid.intro hg
    clear htk hg hD
    go_enter Try.func20, Try.ntmps20
    go_wp2_with fail
    refine KO.out.mono ?_
    rintro e w1 ⟨rfl, hb1⟩
    have X1 := blk_kept X0 hb1
    have K1 := k_trans K0 hb1
    obtain ⟨⟨x0, x1, x2⟩, y0, y1, y2⟩ := threeZ X1
    have HB := Hid.intro (((K1.setCell (p := ⟨w.heap.size + 1, 0, none⟩) (by show _ ≤ w.heap.size + 1; omega) (.int .i64 0)).setCell (p := ⟨w.heap.size + 1, 1, none⟩) (by show _ ≤ w.heap.size + 1; omega) (.int .i64 0)).setCell (p := ⟨w.heap.size + 1, 2, none⟩) (by show _ ≤ w.heap.size + 1; omega) (.slice none 0 0))
    clear hb1 K1 X1 KO hW0 t0 t1 t2 t3 t4
    go_wp2
    exact bodyPost_ret (v := .agg #[.int .i64 0, .int .i64 0, .slice none 0 0]) (by simp [results, Try.results20, go_sem, x0, x1, x2]) rfl ⟨.slice none 0 0, by rw [HG.out], by rw [HG.out]; exact ⟨rfl, .inl ⟨rfl, rfl⟩⟩, HB.out⟩
  | true =>
    rw [htk] at KO
    have hg : gOf t = ⟨t.rows.length, colsOf (max 1 (t.cols.length : Int)) (gridOf t), gridOf t⟩ := by unfold gOf; rw [if_pos htk]
    have HG := Hid.intro hg
    have HLow := Hid.intro (low_of htk hD)
    clear htk hg hD
    go_enter Try.func20, Try.ntmps20
    go_wp2_with fail
    refine KO.out.mono ?_
    rintro e w1 ⟨rfl, hb1⟩
    have X1 := blk_kept X0 hb1
    have T1 := blk_kept T0 hb1
    have K1 := k_trans K0 hb1
    obtain ⟨⟨s0, s1, s2, s3, s4⟩, _⟩ := fiveT T1
    clear KO hW0 t0 t1 t2 t3 t4
    go_wp2_with fail
    refine (l3Of_any ac ar cc cr t HLow.out w1 (HR.out.kept K1)).mono ?_
    rintro e w2 ⟨vg, rfl, hO2, hb2⟩
    have X2 := blk_kept X1 hb2
    have K2 := k_trans K1 hb2
    obtain ⟨va, vq, rfl, _⟩ := row_form hO2
    obtain ⟨⟨x0, x1, x2⟩, y0, y1, y2⟩ := threeZ X2
    have h1 := setB (p := 0) X2 (.int .i64 (t.rows.length : Int))
    have h2 := setB (p := 1) h1 (.int .i64 (colsOf (max 1 (t.cols.length : Int)) (gridOf t)))
    have o1 := row_set (p := 0) hO2 X2 (by decide) (.int .i64 (t.rows.length : Int))
    have o2 := row_set (p := 1) o1 h1 (by decide) (.int .i64 (colsOf (max 1 (t.cols.length : Int)) (gridOf t)))
    have o3 := row_set (p := 2) o2 h2 (by decide) (.slice va (gridOf t).length vq)
    have hz1 : w.heap.size ≤ w1.heap.size := K1.size
    have HO := Hid.intro (row_base o3 hz1)
    have HB := Hid.intro (((K2.setCell (p := ⟨w.heap.size + 1, 0, none⟩) (by show _ ≤ w.heap.size + 1; omega) (.int .i64 (t.rows.length : Int))).setCell (p := ⟨w.heap.size + 1, 1, none⟩) (by show _ ≤ w.heap.size + 1; omega) (.int .i64 (colsOf (max 1 (t.cols.length : Int)) (gridOf t)))).setCell (p := ⟨w.heap.size + 1, 2, none⟩) (by show _ ≤ w.heap.size + 1; omega) (.slice va (gridOf t).length vq))
    clear h1 h2 o1 o2 o3 hO2 hb2 X2 K2 s0 s1 s2 s3 s4 X1 T1 K1 hb1 X0 T0
    generalize hC : colsOf (max 1 (t.cols.length : Int)) (gridOf t) = C at HG HO HB ⊢
    clear hC
    go_wp2
    exact bodyPost_ret (v := .agg #[.int .i64 (t.rows.length : Int), .int .i64 C, .slice va (gridOf t).length vq]) (by simp [results, Try.results20, go_sem, x0, x1, x2]) rfl ⟨_, by rw [HG.out], by rw [HG.out]; exact HO.out, HB.out⟩
end Go.Proofs.Ytggmjiddadjilal
