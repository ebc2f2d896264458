/-
  PROVED HERE: a table behind a cell taken out of a row, as a list; a row's slice of cells another one, in memory. Also: boxes that are newly made, and how many cells a row of a table that is ok has. Also: what the program's EdtTake answers: of a table that is ok the table without one cell, or the table as it is, in memory of its own; else nothing; nothing that was in memory is turned.
-/
import Derived.Test.YtojogjlblgcioaoB16
namespace Go.Proofs.Ytojogjlblgcioao
open Go.RowKit

/-- a table behind a cell taken out -/
def edTake (t : T) (row at' : Int) : T × Bool :=
  if tblB t = true then (if hasB t row at' = true then (setRow t row.toNat ((t.rows.getD row.toNat dR).cells.eraseIdx at'.toNat), true) else (t, false)) else (zT, false)
theorem smT_take {t : T} {row at' : Int} : SmT (edTake t row at').1 := by
  unfold edTake
  split
  · rename_i h
    split
    · rename_i h2
      refine smT_set (smT_ok h) ?_
      obtain ⟨r, a, rfl, rfl, hr, ha⟩ := hasB_iff.1 h2
      rw [Int.toNat_natCast, Int.toNat_natCast, List.length_eraseIdx_of_lt ha]
      have := (smT_ok h).cells r hr
      omega
    · exact smT_ok h
  · exact smT_z
theorem txM_take {t : T} (ht : TxM t) {row at' : Int} : TxM (edTake t row at').1 := by
  unfold edTake
  split
  · split
    · rename_i h2
      obtain ⟨r, a, rfl, rfl, hr, ha⟩ := hasB_iff.1 h2
      refine txM_set ht (fun x hx => ?_)
      rw [Int.toNat_natCast, getD_get dR hr] at hx
      exact ht _ (List.getElem_mem hr) x (List.mem_of_mem_eraseIdx hx)
    · exact ht
  · exact txM_z
/-- one row of a table that is owned: its slice of cells another one -/
theorem OwnR.slice {w1 : World} {base : Nat} {v : Value} {ur : List (Value × R)} {i g cap : Nat} (hv : v = .slice (some ⟨g, 0, none⟩) ur.length cap) {p : Value × R} (hi : ur[i]? = some p) {u : Value} {r : R} (hw : r.whole = p.2.whole)
    (hR : w1.ownsRow base 88 2 v ur.length (ur.flatMap rowVs)) (hC : ∀ j, j ≠ i → ∀ q, ur[j]? = some q → OwnC w1 base q.1 q.2.cells) (hc : OwnC w1 base u r.cells)
    (ha : ur.Pairwise fun p q => p.1.ownBlock = none ∨ p.1.ownBlock ≠ q.1.ownBlock) (hu : ∀ j, j ≠ i → ∀ q, ur[j]? = some q → q.1.ownBlock = none ∨ q.1.ownBlock ≠ u.ownBlock) :
    OwnR (w1.setCell ⟨g, i * 2, none⟩ u) base v (ur.set i (u, r)) := by
  have hil : i < ur.length := (List.getElem?_eq_some_iff.1 hi).1
  have ep : ur[i] = p := by rw [List.getElem?_eq_getElem hil] at hi; exact Option.some.inj hi
  have hvg : v.ownBlock = some g := by rw [hv]; rfl
  have hS : Off 0 (some g) none w1 (w1.setCell ⟨g, i * 2, none⟩ u) := Off.set w1 ⟨g, i * 2, none⟩ rfl _
  have hnn : ∀ u : Value, u.ownBlock = none ∨ u.ownBlock ≠ none := fun u => by rcases hb : u.ownBlock with _ | b; exact .inl rfl; exact .inr (by simp)
  have hcw : ∀ {x : Value} {cs : List C}, OwnC w1 base x cs → OwnC (w1.setCell ⟨g, i * 2, none⟩ u) base x cs := fun h => by
    refine row_off h hS (Nat.zero_le _) ?_ (hnn _)
    rcases row_ne h hR (by decide) with e | e
    · exact .inl e
    · exact .inr (by rw [← hvg]; exact e)
  refine ⟨?_, fun q hq => ?_, ?_⟩
  · rcases hR.2 with ⟨e, _⟩ | ⟨g', cap', cur, e, hg', hcur, a1, a2, a3, a4⟩
    · rw [hv] at e; simp at e
    · rw [hv] at e
      simp only [Value.slice.injEq, Option.some.injEq, Addr.mk.injEq, and_true, true_and] at e
      obtain ⟨rfl, rfl⟩ := e
      refine ⟨by rw [flat_len rowVs 2 (fun _ => rfl)], .inr ⟨g, cap, cur.setIfInBounds (i * 2) u, by rw [List.length_set]; exact hv, hg', setB hcur _, by rw [List.length_set]; exact a1, a2, by rw [Array.size_setIfInBounds]; exact a3, ?_⟩⟩
      refine flat_take rowVs 2 (fun _ => rfl) (ur.set i (u, r)) (cur.setIfInBounds (i * 2) u) (by rw [List.length_set, Array.size_setIfInBounds, a3]; omega) (fun j hj0 m hm => ?_)
      have hj : j < ur.length := by rw [List.length_set] at hj0; exact hj0
      have hold : cur[j * 2 + m]? = (rowVs ur[j])[m]? := by
        have e := flat_get rowVs 2 (fun _ => rfl) ur j hj m hm
        rw [← a4, List.getElem?_take_of_lt (by omega), Array.getElem?_toList] at e
        exact e
      by_cases hji : j = i
      · subst hji
        rw [List.getElem_set_self]
        match m, hm with
        | 0, _ =>
          rw [Nat.add_zero, Array.getElem?_setIfInBounds_self_of_lt (by rw [a3]; omega)]
          rfl
        | 1, _ =>
          rw [Array.getElem?_setIfInBounds_ne (by omega), hold, ep]
          show some (Value.bool p.2.whole) = some (Value.bool r.whole)
          rw [hw]
      · rw [List.getElem_set_ne (by omega), Array.getElem?_setIfInBounds_ne (by omega)]
        exact hold
  · obtain ⟨j, hj0, rfl⟩ := List.mem_iff_getElem.1 hq
    have hj : j < ur.length := by rw [List.length_set] at hj0; exact hj0
    by_cases hji : j = i
    · subst hji
      rw [List.getElem_set_self]
      exact hcw hc
    · rw [List.getElem_set_ne (by omega)]
      exact hcw (hC j hji _ (List.getElem?_eq_getElem hj))
  · rw [List.pairwise_iff_getElem] at ha ⊢
    intro x y hx0 hy0 hxy
    have hx : x < ur.length := by rw [List.length_set] at hx0; exact hx0
    have hy : y < ur.length := by rw [List.length_set] at hy0; exact hy0
    by_cases hxi : x = i
    · subst hxi
      rw [List.getElem_set_self, List.getElem_set_ne (by omega)]
      rcases hb : u.ownBlock with _ | b
      · exact .inl rfl
      · refine .inr (fun e => ?_)
        rcases hu y (by omega) _ (List.getElem?_eq_getElem hy) with h1 | h1
        · rw [h1] at e; cases e
        · exact h1 (e.symm.trans hb.symm)
    · by_cases hyi : y = i
      · subst hyi
        rw [List.getElem_set_self, List.getElem_set_ne (by omega)]
        exact hu x (by omega) _ (List.getElem?_eq_getElem hx)
      · rw [List.getElem_set_ne (by omega), List.getElem_set_ne (by omega)]
        exact ha x y hx hy hxy
/-- the same block, its cells others -/
theorem OwnD.take {w W9 : World} {B D : Nat} {vc vr : Value} {cols : List (Int × Int)} {ur : List (Value × R)} (h : OwnD w B D vc vr cols ur) {r g cg : Nat} (hv : vr = .slice (some ⟨g, 0, none⟩) ur.length cg) {p : Value × R} (hp : ur[r]? = some p) {b : Nat} (hpb : p.1.ownBlock = some b) (hG : w.grownBy W9 (some b)) {u : Value} {cs : List C} (hub : u.ownBlock = some b) (hc : OwnC W9 B u cs) :
    OwnD (W9.setCell ⟨g, r * 2, none⟩ u) B D vc vr cols (ur.set r (u, ⟨cs, p.2.whole⟩)) := by
  have hpm : p ∈ ur := List.mem_of_getElem? hp
  have hrl : r < ur.length := (List.getElem?_eq_some_iff.1 hp).1
  have ep : ur[r] = p := by rw [List.getElem?_eq_getElem hrl] at hp; exact Option.some.inj hp
  have hnn : ∀ u : Value, u.ownBlock = none ∨ u.ownBlock ≠ none := fun u => by rcases hb : u.ownBlock with _ | b; exact .inl rfl; exact .inr (by simp)
  have hG' : w.grownBy W9 p.1.ownBlock := by rw [hpb]; exact hG
  have K1 : Off 0 none p.1.ownBlock w W9 := Off.grown hG'
  have hR := row_off h.2.1.own K1 (Nat.zero_le _) (hnn vr) (row_ne h.2.1.own (h.2.1.cells p hpm) (by decide))
  have hap : ∀ j, j ≠ r → ∀ q, ur[j]? = some q → q.1.ownBlock = none ∨ q.1.ownBlock ≠ p.1.ownBlock := fun j hj q hq => by
    have hjl : j < ur.length := (List.getElem?_eq_some_iff.1 hq).1
    have eq : ur[j] = q := by rw [List.getElem?_eq_getElem hjl] at hq; exact Option.some.inj hq
    have hpw := List.pairwise_iff_getElem.1 h.2.1.apart
    rcases Nat.lt_or_gt_of_ne hj with hl | hl
    · rw [← ep, ← eq]; exact hpw j r hjl hrl hl
    · have := hpw r j hrl hjl hl
      rw [ep, eq] at this
      rcases hb : q.1.ownBlock with _ | b'
      · exact .inl rfl
      · refine .inr (fun e => ?_)
        rcases this with e1 | e1
        · rw [e1] at e; cases e
        · exact e1 (e.symm.trans hb.symm)
  have hC : ∀ j, j ≠ r → ∀ q, ur[j]? = some q → OwnC W9 B q.1 q.2.cells := fun j hj q hq => row_off (h.2.1.cells q (List.mem_of_getElem? hq)) K1 (Nat.zero_le _) (hnn _) (hap j hj q hq)
  have hO := OwnR.slice (r := ⟨cs, p.2.whole⟩) hv hp rfl hR hC hc h.2.1.apart (fun j hj q hq => by rw [hub, ← hpb]; exact hap j hj q hq)
  have hgB : vr.ownBlock = some g := by rw [hv]; rfl
  refine ⟨?_, hO, h.2.2.1, h.2.2.2.1, fun q hq b' e => ?_⟩
  · have c1 := row_off h.1 K1 (Nat.zero_le _) (hnn vc) (row_ne h.1 (h.2.1.cells p hpm) (by decide))
    have hS : Off 0 (some g) none W9 (W9.setCell ⟨g, r * 2, none⟩ u) := Off.set W9 ⟨g, r * 2, none⟩ rfl _
    refine row_off c1 hS (Nat.zero_le _) ?_ (hnn _)
    rcases row_ne c1 hR (by decide) with e | e
    · exact .inl e
    · exact .inr (by rw [← hgB]; exact e)
  · rcases List.mem_or_eq_of_mem_set hq with hm | rfl
    · exact h.2.2.2.2 q hm b' e
    · rw [hub] at e
      exact h.2.2.2.2 p hpm b' (by rw [hpb]; exact e)
end Go.Proofs.Ytojogjlblgcioao
namespace Go.Proofs.Ytojogjlblgcioao
open Go.RowKit

theorem alloc_at {w : World} {k : Nat} {o q : Obj} (h : w.heap[k]? = some q) : (w.alloc o).heap[k]? = some q := (Below.heap_alloc w o k (Array.getElem?_eq_some_iff.1 h).1).trans h
theorem alloc_new {w : World} {o : Obj} {k : Nat} (h : w.heap.size = k) : (w.alloc o).heap[k]? = some o := by subst h; exact newestB w o
theorem cells_5 {t : T} (h : tblB t = true) : ∀ r ∈ t.rows, r.cells.length ≤ 1048576 := by
  intro r hr
  obtain ⟨i, hi, rfl⟩ := List.mem_iff_getElem.1 hr
  have := (tbl_bounds h).2.2.2 i hi
  rw [getD_get dR hi] at this
  omega
end Go.Proofs.Ytojogjlblgcioao
namespace Go.Proofs.Ytojogjlblgcioao
open Go.RowKit

set_option maxRecDepth 100000 in
set_option maxHeartbeats 4000000 in
theorem implEdtTake (ac ar : Option Addr) (cc cr : Nat) (t : T) (row at' : Int) (hrow : -9223372036854775808 ≤ row ∧ row ≤ 9223372036854775807) (w : World) {z : Nat} (hc : ColsAt w z (.slice ac t.cols.length cc) t.cols) (hr : RowsAt w z (.slice ar t.rows.length cr) t.rows) :
    Calls Try.prog 30 #[.agg #[.slice ac t.cols.length cc, .int .i64 t.head, .int .i64 t.foot, .slice ar t.rows.length cr, .int .i64 t.gap], .int .i64 row, .int .i64 at'] w fun e w' => ∃ a1 c1 a2 c2 d1 d2, e = .returned (.tuple #[.agg #[.slice a1 d1 c1, .int .i64 (edTake t row at').1.head, .int .i64 (edTake t row at').1.foot, .slice a2 d2 c2, .int .i64 (edTake t row at').1.gap], .bool (edTake t row at').2]) ∧ OwnT w' w.heap.size (.slice a1 d1 c1) (.slice a2 d2 c2) (edTake t row at').1 ∧ Below w.heap.size w w' := by
  have hmf : ∀ (fn : Fn) (first cap : Array Value) (W : World), (Instr.makeFunc fn first cap).run Try.prog W = .ok (.func fn first cap) W := fun _ _ _ _ => rfl
  obtain ⟨W0, hW0⟩ : ∃ W0, (((w.alloc (.cells #[.slice ac t.cols.length cc, .int .i64 t.head, .int .i64 t.foot, .slice ar t.rows.length cr, .int .i64 t.gap] 56)).alloc (.cells #[.int .i64 row] 3)).alloc (.cells #[.int .i64 at'] 3)).alloc (.cells #[.slice none 0 0, .int .i64 0, .int .i64 0, .slice none 0 0, .int .i64 0] 56) = W0 := ⟨_, rfl⟩
  have K0 : Below w.heap.size w W0 := by rw [← hW0]; exact k_alloc (k_alloc (k_alloc (k_alloc (Below.refl _ _) _) _) _) _
  have T0 : W0.heap[w.heap.size]? = some (.cells #[.slice ac t.cols.length cc, .int .i64 t.head, .int .i64 t.foot, .slice ar t.rows.length cr, .int .i64 t.gap] 56) := by rw [← hW0]; exact alloc_at (alloc_at (alloc_at (newestB _ _)))
  have T1 : W0.heap[w.heap.size + 1]? = some (.cells #[.int .i64 row] 3) := by rw [← hW0]; exact alloc_at (alloc_at (alloc_new (by simp)))
  have T2 : W0.heap[w.heap.size + 1 + 1]? = some (.cells #[.int .i64 at'] 3) := by rw [← hW0]; exact alloc_at (alloc_new (by simp))
  have T4 : W0.heap[w.heap.size + 1 + 1 + 1]? = some (.cells #[.slice none 0 0, .int .i64 0, .int .i64 0, .slice none 0 0, .int .i64 0] 56) := by rw [← hW0]; exact alloc_new (by simp)
  have hsz : w.heap.size + 1 + 1 + 1 < W0.heap.size := (Array.getElem?_eq_some_iff.1 T4).1
  have KO := Hid.intro (implCopyOf ac ar cc cr t W0 (hc.kept K0) (hr.kept K0))
  have HTx := Hid.intro (txM_at hr)
  have HK0 := Hid.intro K0
  obtain ⟨b0, b1, b2, b3, b4⟩ := fiveO T0
  have HT1 := Hid.intro T1
  have HT2 := Hid.intro T2
  have HT4 := Hid.intro T4
  clear hc hr K0 T0 T1 T2 T4
  go_enter Try.func30, Try.ntmps30
  go_upto_region 1 with fail
  clear hW0
  have hl4 : w.heap.size ≤ w.heap.size + 1 + 1 + 1 := by omega
  generalize w.heap.size + 1 + 1 + 1 = bz at HT4 hsz hl4 ⊢
  generalize w.heap.size + 1 + 1 = ba at HT2 ⊢
  generalize w.heap.size + 1 = br at HT1 ⊢
  go_wp2_with fail
  refine KO.out.mono ?_
  rintro e w1 ⟨hcase, hb1⟩
  have hlz1 := Nat.lt_of_lt_of_le hsz hb1.size
  replace HT1 := Hid.intro ((hb1.block _ (Array.getElem?_eq_some_iff.1 HT1.out).1).trans HT1.out)
  replace HT2 := Hid.intro ((hb1.block _ (Array.getElem?_eq_some_iff.1 HT2.out).1).trans HT2.out)
  replace HT4 := Hid.intro ((hb1.block _ (Array.getElem?_eq_some_iff.1 HT4.out).1).trans HT4.out)
  replace HK0 := Hid.intro (k_trans HK0.out hb1)
  clear KO b0 b1 b2 b3 b4
  rcases hcase with ⟨htk, rfl⟩ | ⟨htk, a1, c1, a2, c2, rfl, hO1⟩
  · have HE : Hid (edTake t row at' = (zT, false)) := by show _ = _; rw [edTake, if_neg (by rw [htk]; simp)]
    replace HT4 := Hid.intro (alloc_at (o := (.cells #[.slice none 0 0, .int .i64 0, .int .i64 0, .slice none 0 0, .int .i64 0] 56)) HT4.out)
    replace HK0 := Hid.intro (k_alloc HK0.out (.cells #[.slice none 0 0, .int .i64 0, .int .i64 0, .slice none 0 0, .int .i64 0] 56))
    have HX : Hid ((w1.alloc (.cells #[.slice none 0 0, .int .i64 0, .int .i64 0, .slice none 0 0, .int .i64 0] 56)).heap[w1.heap.size]? = some (.cells #[.slice none 0 0, .int .i64 0, .int .i64 0, .slice none 0 0, .int .i64 0] 56)) := newestB _ _
    clear HT1 HT2 hb1 htk
    go_upto_region 2 with fail
    generalize w1.alloc (.cells #[.slice none 0 0, .int .i64 0, .int .i64 0, .slice none 0 0, .int .i64 0] 56) = W1 at HT4 HK0 HX ⊢
    generalize w1.heap.size = xb at HX hlz1 ⊢
    have KB := Hid.intro (fun p0 p1 p2 => behindTake_no xb p0 p1 p2 none none 0 0 0 0 0 0 0 W1 HX.out)
    obtain ⟨x0, x1, x2, x3, x4⟩ := fiveO HX.out
    go_wp2_with fail
    refine (KB.out _ _ _).mono ?_
    rintro e w2 ⟨rfl, hb2⟩
    replace HT4 := Hid.intro ((hb2.block _ (Array.getElem?_eq_some_iff.1 HT4.out).1).trans HT4.out)
    replace HK0 := Hid.intro (k_trans HK0.out hb2)
    obtain ⟨d0, d1, d2, d3, d4⟩ := fiveO HT4.out
    have fz : ∀ p, w2.frozen? ⟨bz, p, none⟩ = false := fun p => freeB HT4.out
    clear hb2 x0 x1 x2 x3 x4 KB
    go_wp2
    exact bodyPost_ret (v := .tuple #[.agg #[.slice none 0 0, .int .i64 0, .int .i64 0, .slice none 0 0, .int .i64 0], .bool false]) (by simp [results, Try.results30, go_sem, d0, d1, d2, d3, d4]) rfl ⟨none, 0, none, 0, 0, 0, by rw [HE.out]; rfl, by rw [HE.out]; exact ⟨[], rfl, ⟨rfl, .inl ⟨rfl, rfl⟩⟩, ⟨⟨rfl, .inl ⟨rfl, rfl⟩⟩, fun p hp => absurd hp (by simp), .nil⟩⟩, k_set (k_set (k_set (k_set (k_set HK0.out hl4 _) hl4 _) hl4 _) hl4 _) hl4 _⟩
  · obtain ⟨ur, hur, hOc, hOr⟩ := hO1
    have Hur := Hid.intro hur
    have HOD := Hid.intro ((OwnD.of hOc hOr).kept (k_alloc (Below.refl _ _) (.cells #[.slice a1 t.cols.length c1, .int .i64 t.head, .int .i64 t.foot, .slice a2 t.rows.length c2, .int .i64 t.gap] 56)))
    have HTM : Hid (RowsAt (w1.alloc (.cells #[.slice a1 t.cols.length c1, .int .i64 t.head, .int .i64 t.foot, .slice a2 t.rows.length c2, .int .i64 t.gap] 56)) W0.heap.size (.slice a2 t.rows.length c2) t.rows) := OwnT.rows (own_lt (t := t) HOD.out rfl hur) HTx.out
    replace HT1 := Hid.intro (alloc_at (o := (.cells #[.slice a1 t.cols.length c1, .int .i64 t.head, .int .i64 t.foot, .slice a2 t.rows.length c2, .int .i64 t.gap] 56)) HT1.out)
    replace HT2 := Hid.intro (alloc_at (o := (.cells #[.slice a1 t.cols.length c1, .int .i64 t.head, .int .i64 t.foot, .slice a2 t.rows.length c2, .int .i64 t.gap] 56)) HT2.out)
    replace HT4 := Hid.intro (alloc_at (o := (.cells #[.slice a1 t.cols.length c1, .int .i64 t.head, .int .i64 t.foot, .slice a2 t.rows.length c2, .int .i64 t.gap] 56)) HT4.out)
    replace HK0 := Hid.intro (k_alloc HK0.out (.cells #[.slice a1 t.cols.length c1, .int .i64 t.head, .int .i64 t.foot, .slice a2 t.rows.length c2, .int .i64 t.gap] 56))
    have HX : Hid ((w1.alloc (.cells #[.slice a1 t.cols.length c1, .int .i64 t.head, .int .i64 t.foot, .slice a2 t.rows.length c2, .int .i64 t.gap] 56)).heap[w1.heap.size]? = some (.cells #[.slice a1 t.cols.length c1, .int .i64 t.head, .int .i64 t.foot, .slice a2 t.rows.length c2, .int .i64 t.gap] 56)) := newestB _ _
    have HEd : Hid (edTake t row at' = if hasB t row at' = true then (setRow t row.toNat ((t.rows.getD row.toNat dR).cells.eraseIdx at'.toNat), true) else (t, false)) := by show _ = _; rw [edTake, if_pos htk]
    have H5 := Hid.intro (cells_5 htk)
    have hxW : w1.heap.size < (w1.alloc (.cells #[.slice a1 t.cols.length c1, .int .i64 t.head, .int .i64 t.foot, .slice a2 t.rows.length c2, .int .i64 t.gap] 56)).heap.size := by simp
    clear hOc hOr hb1 htk hur HTx
    go_upto_region 2 with fail
    generalize w1.alloc (.cells #[.slice a1 t.cols.length c1, .int .i64 t.head, .int .i64 t.foot, .slice a2 t.rows.length c2, .int .i64 t.gap] 56) = W1 at HT1 HT2 HT4 HK0 HX HOD HTM hxW ⊢
    generalize w1.heap.size = xb at HX HOD hlz1 hxW ⊢
    obtain ⟨x0, x1, x2, x3, x4⟩ := fiveO HX.out
    have y1 := cellB (p := 0) HT1.out
    have y2 := cellB (p := 0) HT2.out
    have KH := Hid.intro (implHasCell a1 a2 c1 c2 t row at' hrow H5.out W1 HTM.out)
    cases hh : hasB t row at' with
    | false =>
      rw [hh] at KH
      have HE : Hid (edTake t row at' = (t, false)) := by show _ = _; rw [HEd.out, if_neg (by rw [hh]; simp)]
      clear hh HEd
      go_wp2_with fail
      refine KH.out.mono ?_
      rintro e w2 ⟨rfl, hb2⟩
      have hx2 := hb2.size
      replace HT1 := Hid.intro ((hb2.block _ (Array.getElem?_eq_some_iff.1 HT1.out).1).trans HT1.out)
      replace HT2 := Hid.intro ((hb2.block _ (Array.getElem?_eq_some_iff.1 HT2.out).1).trans HT2.out)
      replace HT4 := Hid.intro ((hb2.block _ (Array.getElem?_eq_some_iff.1 HT4.out).1).trans HT4.out)
      replace HX := Hid.intro ((hb2.block _ (Array.getElem?_eq_some_iff.1 HX.out).1).trans HX.out)
      replace HK0 := Hid.intro (k_trans HK0.out hb2)
      replace HOD := Hid.intro (HOD.out.kept hb2)
      clear hb2 KH x0 x1 x2 x3 x4 y1 y2 HTM
      have KB := Hid.intro (fun p0 p1 p2 => behindTake_no xb p0 p1 p2 a1 a2 t.cols.length c1 t.rows.length c2 t.head t.foot t.gap w2 HX.out)
      go_wp2_with fail
      refine (KB.out _ _ _).mono ?_
      rintro e w4 ⟨rfl, hb4⟩
      replace HT4 := Hid.intro ((hb4.block _ (Array.getElem?_eq_some_iff.1 HT4.out).1).trans HT4.out)
      replace HK0 := Hid.intro (k_trans HK0.out hb4)
      replace HOD := Hid.intro (HOD.out.kept hb4)
      obtain ⟨d0, d1, d2, d3, d4⟩ := fiveO HT4.out
      have fz : ∀ p, w4.frozen? ⟨bz, p, none⟩ = false := fun p => freeB HT4.out
      clear hb4 KB
      go_wp2
      exact bodyPost_ret (v := .tuple #[.agg #[.slice a1 t.cols.length c1, .int .i64 t.head, .int .i64 t.foot, .slice a2 t.rows.length c2, .int .i64 t.gap], .bool false]) (by simp [results, Try.results30, go_sem, d0, d1, d2, d3, d4]) rfl ⟨a1, c1, a2, c2, _, _, by rw [HE.out], by rw [HE.out]; exact OwnT.base (OwnT.since (own_lt HOD.out rfl Hur.out) (Since.set (Since.set (Since.set (Since.set (Since.set (Since.refl _ _) (p := ⟨bz, 0, none⟩) hsz _) (p := ⟨bz, 1, none⟩) hsz _) (p := ⟨bz, 2, none⟩) hsz _) (p := ⟨bz, 3, none⟩) hsz _) (p := ⟨bz, 4, none⟩) hsz _)) (by omega), k_set (k_set (k_set (k_set (k_set HK0.out hl4 _) hl4 _) hl4 _) hl4 _) hl4 _⟩
    | true =>
      rw [hh] at KH
      have Hh := Hid.intro hh
      clear hh
      go_wp2_with fail
      refine KH.out.mono ?_
      rintro e w2 ⟨rfl, hb2⟩
      have hx2 := hb2.size
      replace HT1 := Hid.intro ((hb2.block _ (Array.getElem?_eq_some_iff.1 HT1.out).1).trans HT1.out)
      replace HT2 := Hid.intro ((hb2.block _ (Array.getElem?_eq_some_iff.1 HT2.out).1).trans HT2.out)
      replace HT4 := Hid.intro ((hb2.block _ (Array.getElem?_eq_some_iff.1 HT4.out).1).trans HT4.out)
      replace HX := Hid.intro ((hb2.block _ (Array.getElem?_eq_some_iff.1 HX.out).1).trans HX.out)
      replace HK0 := Hid.intro (k_trans HK0.out hb2)
      replace HOD := Hid.intro (HOD.out.kept hb2)
      clear hb2 KH x0 x1 x2 x3 x4 y1 y2 HTM
      have HE : Hid (edTake t row at' = (setRow t row.toNat ((t.rows.getD row.toNat dR).cells.eraseIdx at'.toNat), true)) := by show _ = _; rw [HEd.out, if_pos Hh.out]
      clear HEd
      obtain ⟨r, a, rfl, rfl, hrl, hal⟩ := hasB_iff.1 Hh.out
      rw [Int.toNat_natCast, Int.toNat_natCast] at HE
      have hur := Hur.out
      have hul : ur.length = t.rows.length := by rw [← hur, List.length_map]
      have hge : ur[r]? = some (ur[r]'(by omega)) := List.getElem?_eq_getElem (by omega)
      have hpr : (ur[r]'(by omega)).2 = t.rows.getD r dR := by rw [← map_snd_get hge, hur]
      generalize hpE : ur[r]'(by omega) = p at hge hpr
      clear hpE
      rw [← hpr] at hal HE
      obtain ⟨g, cg, arr, ev, hg1, hg2, hgl, hgB, harr, hasz, ha0, ha1⟩ := own_get HOD.out.2.1 hge
      rw [hul] at ev hg1
      simp only [Value.slice.injEq, true_and] at ev
      obtain ⟨rfl, rfl⟩ := ev
      obtain ⟨h, cu, cur, hpv, hh1, hh2, hh3, hh4⟩ := own_row HOD.out.2.1 hge hal
      rw [hpv] at ha0
      have hDx := hlz1
      have HOw : Hid (∀ W9, w2.grownBy W9 (some h) → OwnC W9 W0.heap.size (.slice (some ⟨h, 0, none⟩) (p.2.cells.length - 1) cu) (p.2.cells.eraseIdx a) → OwnD (W9.setCell ⟨g, r * 2, none⟩ (.slice (some ⟨h, 0, none⟩) (p.2.cells.length - 1) cu)) W0.heap.size xb (.slice a1 t.cols.length c1) (.slice (some ⟨g, 0, none⟩) t.rows.length c2) t.cols (ur.set r ((.slice (some ⟨h, 0, none⟩) (p.2.cells.length - 1) cu), ⟨p.2.cells.eraseIdx a, p.2.whole⟩))) := fun W9 hg9 hc9 => OwnD.take HOD.out (by rw [hul]) hge (b := h) (by rw [hpv]; rfl) hg9 rfl hc9
      have hOCp : OwnC w2 W0.heap.size (.slice (some ⟨h, 0, none⟩) p.2.cells.length cu) p.2.cells := by
        have := HOD.out.2.1.cells p (List.mem_of_getElem? hge)
        rw [hpv] at this
        exact this
      have hm5 : p.2.cells.length ≤ 1048576 := by
        have := H5.out p.2 (by rw [← hur]; exact List.mem_map_of_mem (List.mem_of_getElem? hge))
        exact this
      have hgz : g ≠ bz := fun e => by subst e; rw [HT4.out] at harr; simp at harr
      have hgx : g ≠ xb := fun e => by subst e; rw [HX.out] at harr; simp at harr
      have hgw : w.heap.size ≤ g := by
        have := (row_lt HOD.out.2.1.own (b := g) rfl).1
        omega
      have hxl : xb < w2.heap.size := (Array.getElem?_eq_some_iff.1 HX.out).1
      have hhx : h ≠ xb := fun e => by subst e; rw [HX.out] at hh1; simp at hh1
      have hhl : h < w2.heap.size := (Array.getElem?_eq_some_iff.1 hh1).1
      have hhz : h ≠ bz := fun e => by subst e; rw [HT4.out] at hh1; simp at hh1
      have hBw : w.heap.size ≤ h := by
        have := (row_lt (HOD.out.2.1.cells p (List.mem_of_getElem? hge)) (b := h) (by rw [hpv]; rfl)).1
        omega
      have KB := Hid.intro (behindTake_yes xb (.pointer (some ⟨xb, 0, none⟩)) (.pointer (some ⟨br, 0, none⟩)) (.pointer (some ⟨ba, 0, none⟩)) a1 (some ⟨g, 0, none⟩) t.cols.length c1 t.rows.length c2 t.head t.foot t.gap w2
        (fun W => OwnD W W0.heap.size xb (.slice a1 t.cols.length c1) (.slice (some ⟨g, 0, none⟩) t.rows.length c2) t.cols (ur.set r ((.slice (some ⟨h, 0, none⟩) (p.2.cells.length - 1) cu), ⟨p.2.cells.eraseIdx a, p.2.whole⟩)) ∧ Below w.heap.size w W ∧ W.heap[bz]? = some (.cells #[.slice none 0 0, .int .i64 0, .int .i64 0, .slice none 0 0, .int .i64 0] 56))
        (fun W W' ⟨p1, p2, p3⟩ hk hs ho ht hu => ⟨p1.other (n := w2.heap.size) (by omega) hk, below_other p2 (n := w2.heap.size) (by omega) hk hs ho ht hu, (hk bz (by omega)).trans p3⟩)
        ((closTake xb br ba g h r a t.rows.length c2 p.2.cells.length cu W0.heap.size a1 t.cols.length c1 (.int .i64 t.head) (.int .i64 t.foot) (.int .i64 t.gap) p.2.cells arr (w2.alloc (.cells #[.slice none 0 0, .int .i64 0, .int .i64 0, .slice none 0 0, .int .i64 0] 56)) (alloc_at HX.out) (alloc_at HT1.out) (alloc_at HT2.out) (alloc_at harr) hrl ha0 rfl hal hm5 (row_kept9 hOCp (k_alloc (Below.refl _ _) _))).mono (fun e w' ⟨e1, W9, hg9, hc9, e2⟩ => by
          have hg9' : w2.grownBy W9 (some h) := grown_trans (grown_below (k_alloc (Below.refl _ _) (.cells #[.slice none 0 0, .int .i64 0, .int .i64 0, .slice none 0 0, .int .i64 0] 56))) hg9
          have hot : ∀ k, k ≠ h → k ≠ g → k < w2.heap.size + 1 → w'.heap[k]? = (w2.alloc (.cells #[.slice none 0 0, .int .i64 0, .int .i64 0, .slice none 0 0, .int .i64 0] 56)).heap[k]? := fun k hk hk2 hl => by
            rw [e2, Below.heap_setCell _ _ _ _ (by dsimp only; exact hk2)]
            exact hg9.block k (by simp; omega) (fun e => hk (Option.some.inj e))
          have hbl : Below w.heap.size w w' := by
            rw [e2]
            exact ((HK0.out.grown hg9' (by omega) (fun q hq => by simp at hq; omega))).setCell hgw _
          refine ⟨e1, ⟨by rw [e2]; exact HOw.out W9 hg9' hc9, hbl, ?_⟩, ?_, ?_⟩
          · exact (hot bz (fun e => hhz e.symm) (fun e => hgz e.symm) (by omega)).trans (alloc_at HT4.out)
          · exact (hot xb (fun e => hhx e.symm) (fun e => hgx e.symm) (by omega)).trans (alloc_at HX.out)
          · exact (hot w2.heap.size (by omega) (by omega) (by omega)).trans (newestB _ _))))
      clear ha0 ha1 hh1 hh2 hh3 hh4 harr hasz hg1 hg2 hgl hgB HOw HT1 HT2 HK0 hOCp HOD HX HT4
      go_wp2_with fail
      refine KB.out.mono ?_
      rintro e w4 ⟨rfl, hD4, hK4, hZ4⟩
      have HD4 := Hid.intro hD4
      have HK4 := Hid.intro hK4
      obtain ⟨d0, d1, d2, d3, d4⟩ := fiveO hZ4
      have fz : ∀ p, w4.frozen? ⟨bz, p, none⟩ = false := fun p => freeB hZ4
      have HUr : Hid ((ur.set r ((.slice (some ⟨h, 0, none⟩) (p.2.cells.length - 1) cu), ⟨p.2.cells.eraseIdx a, p.2.whole⟩)).map (·.2) = (setRow t r (p.2.cells.eraseIdx a)).rows) := by
        show _ = _
        rw [map_set_snd, hur, setRow, hpr]
      clear hD4 hK4 hZ4 KB
      go_wp2
      exact bodyPost_ret (v := .tuple #[.agg #[.slice a1 t.cols.length c1, .int .i64 t.head, .int .i64 t.foot, .slice (some ⟨g, 0, none⟩) t.rows.length c2, .int .i64 t.gap], .bool true]) (by simp [results, Try.results30, go_sem, d0, d1, d2, d3, d4]) rfl ⟨a1, c1, some ⟨g, 0, none⟩, c2, _, _, by rw [HE.out]; rfl, by rw [HE.out]; exact OwnT.base (OwnT.since (own_lt HD4.out rfl HUr.out) (Since.set (Since.set (Since.set (Since.set (Since.set (Since.refl _ _) (p := ⟨bz, 0, none⟩) hsz _) (p := ⟨bz, 1, none⟩) hsz _) (p := ⟨bz, 2, none⟩) hsz _) (p := ⟨bz, 3, none⟩) hsz _) (p := ⟨bz, 4, none⟩) hsz _)) (by omega), k_set (k_set (k_set (k_set (k_set HK4.out hl4 _) hl4 _) hl4 _) hl4 _) hl4 _⟩
end Go.Proofs.Ytojogjlblgcioao
