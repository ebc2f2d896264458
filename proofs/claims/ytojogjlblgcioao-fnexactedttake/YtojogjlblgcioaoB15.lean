/-
  PROVED HERE: a table that is owned, behind a write into one place of one of its cells. Also: what the program's cellsIn and hasCell answer: how many cells a row has, and whether there is a cell at a place; nothing that was in memory is turned.
-/
import Derived.Test.YtojogjlblgcioaoB14
import Derived.Deep.Cut
namespace Go.Proofs.Ytojogjlblgcioao
open Go.RowKit

theorem OwnD.put {w W9 : World} {B D : Nat} {vc vr : Value} {cols : List (Int × Int)} {ur : List (Value × R)} (h : OwnD w B D vc vr cols ur) (hb : Below w.heap.size w W9) {r a j : Nat} {p : Value × R} (hp : ur[r]? = some p) {g cap : Nat} (hpv : p.1 = .slice (some ⟨g, 0, none⟩) p.2.cells.length cap) (ha : a < p.2.cells.length) (hj : j < 11) {x : C} {v : Value} (hx : cellVs x = (cellVs p.2.cells[a]).set j v) :
    OwnD (W9.setCell ⟨g, a * 11 + j, none⟩ v) B D vc vr cols (ur.set r (p.1, ⟨p.2.cells.set a x, p.2.whole⟩)) := by
  have h9 := h.kept hb
  have hpm : p ∈ ur := List.mem_of_getElem? hp
  have hC := h9.2.1.cells p hpm
  rw [hpv] at hC
  have hC2 := OwnC.put hC ha hj hx
  have hG : W9.grownBy (W9.setCell ⟨g, a * 11 + j, none⟩ v) p.1.ownBlock := by rw [hpv]; exact grown_set (grown_refl _ _) rfl _
  have hR := h9.2.1.upd hp (r := ⟨p.2.cells.set a x, p.2.whole⟩) rfl (by rw [hpv]; simpa [OwnC] using hC2) hG
  refine ⟨?_, hR, h.2.2.1, h.2.2.2.1, fun q hq b e => ?_⟩
  · have hne := row_ne h9.1 (h9.2.1.cells p hpm) (by decide)
    exact row_off h9.1 (Off.grown (b1 := none) (n := 0) hG) (Nat.zero_le _) (by rcases hb : vc.ownBlock with _ | b; exact .inl rfl; exact .inr (by simp)) hne
  · rcases List.mem_or_eq_of_mem_set hq with hm | rfl
    · exact h.2.2.2.2 q hm b e
    · exact h.2.2.2.2 p hpm b e
/-- two writes into two places of one cell -/
theorem OwnD.put2 {w W9 : World} {B D : Nat} {vc vr : Value} {cols : List (Int × Int)} {ur : List (Value × R)} (h : OwnD w B D vc vr cols ur) (hb : Below w.heap.size w W9) {r a i j : Nat} {p : Value × R} (hp : ur[r]? = some p) {g cap : Nat} (hpv : p.1 = .slice (some ⟨g, 0, none⟩) p.2.cells.length cap) (ha : a < p.2.cells.length) (hi : i < 11) (hj : j < 11) {x y : C} {u v : Value} (hx : cellVs x = (cellVs p.2.cells[a]).set i u) (hy : cellVs y = (cellVs x).set j v) :
    OwnD ((W9.setCell ⟨g, a * 11 + i, none⟩ u).setCell ⟨g, a * 11 + j, none⟩ v) B D vc vr cols (ur.set r (p.1, ⟨p.2.cells.set a y, p.2.whole⟩)) := by
  have hrl : r < ur.length := (List.getElem?_eq_some_iff.1 hp).1
  have h1 := h.put hb hp hpv ha hi hx
  have h2 := h1.put (Below.refl _ _) (r := r) (a := a) (p := (p.1, ⟨p.2.cells.set a x, p.2.whole⟩)) (by rw [List.getElem?_set_self hrl]) (by rw [List.length_set]; exact hpv) (by rw [List.length_set]; exact ha) hj (x := y) (v := v) (by rw [hy]; simp)
  simpa using h2
/-- it stays where one block that is not its own is turned -/
theorem OwnD.other {W W' : World} {B D n : Nat} {vc vr : Value} {cols : List (Int × Int)} {ur : List (Value × R)} (h : OwnD W B D vc vr cols ur) (hn : D ≤ n) (hk : ∀ k, k ≠ n → W'.heap[k]? = W.heap[k]?) : OwnD W' B D vc vr cols ur := by
  obtain ⟨h1, h2, h3, h4, h5⟩ := h
  have key : ∀ {e : TypeId} {sz : Nat} {v : Value} {m : Nat} {xs : List Value}, W.ownsRow B e sz v m xs → (∀ b, v.ownBlock = some b → b < D) → W'.ownsRow B e sz v m xs := fun h hv => by
    refine ⟨h.1, h.2.elim Or.inl (fun ⟨g, cap, cur, e, hg, hc, q⟩ => Or.inr ⟨g, cap, cur, e, hg, ?_, q⟩)⟩
    have hgD : g < D := hv g (by rw [e]; rfl)
    exact (hk g (by omega)).trans hc
  exact ⟨key h1 h3, ⟨key h2.own h4, fun p hp => key (h2.cells p hp) (h5 p hp), h2.apart⟩, h3, h4, h5⟩
theorem below_other {w W W' : World} (h : Below w.heap.size w W) {n : Nat} (hn : w.heap.size ≤ n) (hk : ∀ k, k ≠ n → W'.heap[k]? = W.heap[k]?) (hs : W'.heap.size = W.heap.size) (ho : W'.os = W.os) (ht : W'.tape = W.tape) (hu : W'.output = W.output) : Below w.heap.size w W' :=
  ⟨ho.trans h.os, ht.trans h.tape, hu.trans h.output, by rw [hs]; exact h.size, fun k h1 => (hk k (by omega)).trans (h.block k h1)⟩
/-- a row's cells, as an owned table has them -/
theorem own_row {w : World} {B : Nat} {vr : Value} {ur : List (Value × R)} (h : OwnR w B vr ur) {r : Nat} {p : Value × R} (hp : ur[r]? = some p) {a : Nat} (ha : a < p.2.cells.length) : ∃ g cap cur, p.1 = .slice (some ⟨g, 0, none⟩) p.2.cells.length cap ∧ w.heap[g]? = some (.cells cur 62) ∧ p.2.cells.length ≤ cap ∧ cap ≤ maxLen ∧ cur.size = cap * 11 := by
  rcases (h.cells p (List.mem_of_getElem? hp)).2 with ⟨_, e⟩ | ⟨g, cap, cur, e, hg, hc, a1, a2, a3, _⟩
  · omega
  · exact ⟨g, cap, cur, e, hc, a1, a2, a3⟩
theorem map_set_snd (ur : List (Value × R)) (r : Nat) (q : Value × R) : (ur.set r q).map (·.2) = (ur.map (·.2)).set r q.2 := by simp
theorem own_lt {w : World} {B D : Nat} {vc vr : Value} {cols : List (Int × Int)} {ur : List (Value × R)} (h : OwnD w B D vc vr cols ur) {t : T} (hc : t.cols = cols) (hr : ur.map (·.2) = t.rows) : OwnT w B vc vr t := ⟨ur, hr, by rw [hc]; exact h.1, h.2.1⟩
end Go.Proofs.Ytojogjlblgcioao
namespace Go.Proofs.Ytojogjlblgcioao
open Go.RowKit

set_option maxRecDepth 100000 in
set_option maxHeartbeats 2000000 in
theorem implCellsIn (ac ar : Option Addr) (cc cr : Nat) (t : T) (row : Int) (hrow : -9223372036854775808 ≤ row ∧ row ≤ 9223372036854775807) (w : World) {z : Nat} (hr : RowsAt w z (.slice ar t.rows.length cr) t.rows) :
    Calls Try.prog 53 #[.agg #[.slice ac t.cols.length cc, .int .i64 t.head, .int .i64 t.foot, .slice ar t.rows.length cr, .int .i64 t.gap], .int .i64 row] w fun e w' => e = .returned (.int .i64 (cellsInV t row)) ∧ Below w.heap.size w w' := by
  obtain ⟨_, _, _, hlen⟩ := At.form hr
  unfold maxLen at hlen
  have K0 := k_alloc (Below.refl w.heap.size w) (.cells #[.slice ac t.cols.length cc, .int .i64 t.head, .int .i64 t.foot, .slice ar t.rows.length cr, .int .i64 t.gap] 56)
  have HK := Hid.intro K0
  have HR := Hid.intro (hr.kept K0)
  have HX := Hid.intro (newestB w (.cells #[.slice ac t.cols.length cc, .int .i64 t.head, .int .i64 t.foot, .slice ar t.rows.length cr, .int .i64 t.gap] 56))
  have HV : Hid (cellsInV t row = if inB row 0 ((t.rows.length : Int) - 1) = true then ((t.rows.getD row.toNat dR).cells.length : Int) else -1) := rfl
  clear hr K0
  have HI := Hid.intro (fun W => within_any row 0 ((t.rows.length : Int) - 1) W)
  by_cases hin : inB row 0 ((t.rows.length : Int) - 1) = true
  · have hv := HV.out
    rw [if_pos hin] at hv
    rw [hin] at HI
    obtain ⟨r, rfl⟩ : ∃ r : Nat, row = r := ⟨row.toNat, by simp only [inB, decide_eq_true_eq] at hin; omega⟩
    have hrl : r < t.rows.length := by simp only [inB, decide_eq_true_eq] at hin; omega
    rw [Int.toNat_natCast] at hv
    obtain ⟨b, off, cap', e', hc1, hc2, hbl, u, hx0, hx1, hx⟩ := At.get HR.out hrl
    simp only [Value.slice.injEq, true_and] at e'
    obtain ⟨rfl, rfl⟩ := e'
    obtain ⟨au, cu, rfl, hul⟩ := At.form hx
    have Hv := Hid.intro hv
    generalize (t.rows.getD r dR).cells.length = m at hx0 Hv hul
    unfold maxLen at hc2 hul
    clear hv HV hin hx hx1
    go_enter Try.func53, Try.ntmps53
    go_upto_region 1 with fail
    generalize w.alloc (.cells #[.slice ac t.cols.length cc, .int .i64 t.head, .int .i64 t.foot, .slice (some ⟨b, off, none⟩) t.rows.length cr, .int .i64 t.gap] 56) = W0 at HK HR HX hx0 hbl ⊢
    have z3 := cellB (p := 3) HX.out
    go_wp2_with fail
    refine (HI.out _).mono ?_
    rintro e w1 ⟨rfl, e1⟩
    subst e1
    go_wp2
    go_ret
    exact ⟨by rw [Hv.out]; rfl, HK.out⟩
  · have hv := HV.out
    rw [if_neg hin] at hv
    rw [Bool.eq_false_iff.2 hin] at HI
    have Hv := Hid.intro hv
    clear hv HV hin
    go_enter Try.func53, Try.ntmps53
    go_upto_region 1 with fail
    generalize w.alloc (.cells #[.slice ac t.cols.length cc, .int .i64 t.head, .int .i64 t.foot, .slice ar t.rows.length cr, .int .i64 t.gap] 56) = W0 at HK HR HX ⊢
    have z3 := cellB (p := 3) HX.out
    go_wp2_with fail
    refine (HI.out _).mono ?_
    rintro e w1 ⟨rfl, e1⟩
    subst e1
    go_wp2
    go_ret
    exact ⟨by rw [Hv.out]; rfl, HK.out⟩

theorem cellsIn_bound (t : T) (row : Int) (h : ∀ r ∈ t.rows, r.cells.length ≤ 1048576) : -1 ≤ cellsInV t row ∧ cellsInV t row ≤ 1048576 := by
  unfold cellsInV
  split
  · rename_i hin
    have hl : row.toNat < t.rows.length := by simp only [inB, decide_eq_true_eq] at hin; omega
    have := h _ (List.getElem_mem hl)
    rw [getD_get dR hl]
    omega
  · omega
set_option maxRecDepth 100000 in
set_option maxHeartbeats 2000000 in
theorem implHasCell (ac ar : Option Addr) (cc cr : Nat) (t : T) (row at' : Int) (hrow : -9223372036854775808 ≤ row ∧ row ≤ 9223372036854775807) (hcs : ∀ r ∈ t.rows, r.cells.length ≤ 1048576) (w : World) {z : Nat} (hr : RowsAt w z (.slice ar t.rows.length cr) t.rows) :
    Calls Try.prog 65 #[.agg #[.slice ac t.cols.length cc, .int .i64 t.head, .int .i64 t.foot, .slice ar t.rows.length cr, .int .i64 t.gap], .int .i64 row, .int .i64 at'] w fun e w' => e = .returned (.bool (hasB t row at')) ∧ Below w.heap.size w w' := by
  have K0 := k_alloc (Below.refl w.heap.size w) (.cells #[.slice ac t.cols.length cc, .int .i64 t.head, .int .i64 t.foot, .slice ar t.rows.length cr, .int .i64 t.gap] 56)
  have HK := Hid.intro K0
  have HX := Hid.intro (newestB w (.cells #[.slice ac t.cols.length cc, .int .i64 t.head, .int .i64 t.foot, .slice ar t.rows.length cr, .int .i64 t.gap] 56))
  have KC := Hid.intro (implCellsIn ac ar cc cr t row hrow _ (hr.kept K0))
  have hcb := cellsIn_bound t row hcs
  have HI := Hid.intro (fun W => within_any at' 0 (cellsInV t row - 1) W)
  have HV : Hid (hasB t row at' = inB at' 0 (cellsInV t row - 1)) := rfl
  clear hr K0 hcs
  go_enter Try.func65, Try.ntmps65
  go_upto_region 1 with fail
  generalize w.alloc (.cells #[.slice ac t.cols.length cc, .int .i64 t.head, .int .i64 t.foot, .slice ar t.rows.length cr, .int .i64 t.gap] 56) = W0 at HK HX KC ⊢
  obtain ⟨z0, z1, z2, z3, z4⟩ := fiveO HX.out
  generalize cellsInV t row = cv at KC hcb HI HV
  go_wp2_with fail
  refine KC.out.mono ?_
  rintro e w1 ⟨rfl, hb1⟩
  have HB1 := Hid.intro (k_trans HK.out hb1)
  clear hb1 z0 z1 z2 z3 z4
  go_wp2_with fail
  refine (HI.out _).mono ?_
  rintro e w2 ⟨rfl, e2⟩
  subst e2
  go_wp2
  go_ret
  exact ⟨by rw [HV.out]; rfl, HB1.out⟩
end Go.Proofs.Ytojogjlblgcioao
