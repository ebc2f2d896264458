/- PROVED: at every table, row, place and cell the law FnExactEdtPut returns true (the program's EdtPut answers as the model's, leaves its argument as it was, and its answer owns its memory) and its arguments read as before; no condition. -/
import Derived.Test.YtggmjiddadjilaoD1
import Derived.Test.YtggmjiddadjilaoD2
import Derived.Test.YtggmjiddadjilaoD3
import Derived.Test.YtggmjiddadjilaoD4
import Derived.Test.YtggmjiddadjilaoD5
import Derived.Test.YtggmjiddadjilaoD7
import Derived.Test.YtggmjiddadjilaoD8
import Derived.Test.YtggmjiddadjilaoD16
import Derived.Test.YtggmjiddadjilaoD18
import Derived.WalkKit
import Derived.ProofKit
import Derived.OpenShut
import Derived.ShutString
import Derived.ChangeOld
import Derived.Below
import Derived.Lib.SmallJoins
namespace Go.Proofs.Ytggmjiddadjilao.fnExactEdtPut
open Go.ChangeShapes Go.WideShapes Go.ChangeAt Go.RowKit Go.Joins Go.Deep
open Go.ChangeMaps (open_string shut_string)

theorem set5_is {w : World} {g : Nat} {t : TypeId} {x0 x1 x2 x3 x4 : Value} (h : w.heap[g]? = some (.cells #[x0, x1, x2, x3, x4] t)) (u0 u1 u2 u3 u4 : Value) : (((((w.setCell ⟨g, 0, none⟩ u0).setCell ⟨g, 1, none⟩ u1).setCell ⟨g, 2, none⟩ u2).setCell ⟨g, 3, none⟩ u3).setCell ⟨g, 4, none⟩ u4).heap[g]? = some (.cells #[u0, u1, u2, u3, u4] t) :=
  setB (setB (setB (setB (setB h u0) u1) u2) u3) u4
theorem own_d5 {w : World} {B D : Nat} {vc vr : Value} {cols : List (Int × Int)} {ur : List (Value × R)} (h : OwnD w B D vc vr cols ur) {b : Nat} (hb : b < B ∨ D ≤ b) (u0 u1 u2 u3 u4 : Value) : OwnD (((((w.setCell ⟨b, 0, none⟩ u0).setCell ⟨b, 1, none⟩ u1).setCell ⟨b, 2, none⟩ u2).setCell ⟨b, 3, none⟩ u3).setCell ⟨b, 4, none⟩ u4) B D vc vr cols ur := by
  obtain ⟨h1, h2, h3, h4, h5⟩ := h
  have key : ∀ {e : TypeId} {sz : Nat} {v : Value} {m : Nat} {xs : List Value}, w.ownsRow B e sz v m xs → (∀ g, v.ownBlock = some g → g < D) → (((((w.setCell ⟨b, 0, none⟩ u0).setCell ⟨b, 1, none⟩ u1).setCell ⟨b, 2, none⟩ u2).setCell ⟨b, 3, none⟩ u3).setCell ⟨b, 4, none⟩ u4).ownsRow B e sz v m xs := fun h hv => by
    refine ⟨h.1, h.2.elim Or.inl (fun ⟨g, cap, cur, e, hg, hc, q⟩ => Or.inr ⟨g, cap, cur, e, hg, ?_, q⟩)⟩
    have hgD : g < D := hv g (by rw [e]; rfl)
    have hne : g ≠ b := by omega
    iterate 5 rw [Below.heap_setCell _ _ _ _ (by dsimp only; exact hne)]
    exact hc
  exact ⟨key h1 h3, ⟨key h2.own h4, fun p hp => key (h2.cells p hp) (h5 p hp), h2.apart⟩, h3, h4, h5⟩
/-- an answer, with its blocks between two bounds -/
theorem ans_of {f : FuncId} {args : Array Value} {W : World} {E : T × Bool} (h : Calls Try.prog f args W fun e w' => ∃ a1 c1 a2 c2 d1 d2, e = .returned (.tuple #[.agg #[.slice a1 d1 c1, .int .i64 E.1.head, .int .i64 E.1.foot, .slice a2 d2 c2, .int .i64 E.1.gap], .bool E.2]) ∧ OwnT w' W.heap.size (.slice a1 d1 c1) (.slice a2 d2 c2) E.1 ∧ Below W.heap.size W w') :
    Calls Try.prog f args W fun e w' => ∃ p q r' s u, e = .returned (.tuple #[.agg #[.slice p E.1.cols.length q, .int .i64 E.1.head, .int .i64 E.1.foot, .slice r' E.1.rows.length s, .int .i64 E.1.gap], .bool E.2]) ∧ u.map (·.2) = E.1.rows ∧ OwnD w' W.heap.size w'.heap.size (.slice p E.1.cols.length q) (.slice r' E.1.rows.length s) E.1.cols u ∧ Below W.heap.size W w' := by
  refine h.mono ?_
  rintro e w' ⟨p, q, r', s, d1, d2, rfl, ⟨u, hu, hOc, hOr⟩, hb⟩
  have hul : u.length = E.1.rows.length := by rw [← hu, List.length_map]
  obtain ⟨_, _, e1, _⟩ := row_form hOc
  simp only [Value.slice.injEq] at e1
  have e1' := e1.2.1
  clear e1
  subst e1'
  obtain ⟨_, _, e2, _⟩ := row_form hOr.own
  simp only [Value.slice.injEq] at e2
  have e2' := e2.2.1
  clear e2
  rw [hul] at e2'
  subst e2'
  exact ⟨p, q, r', s, u, rfl, hu, OwnD.of hOc hOr, hb⟩
structure XpJ (t : T) (E : T × Bool) (x : C) (row at' : Int) (ac ar : Option Addr) (cc cr : Nat) (W3 : World) (L : Nat → Bool) (W : World) (v10 v11 v30 v31 v32 v33 v34 v35 v36 v37 v38 v39 : Value) : Prop where
  f0 : L 0 = true → v31 = .agg #[.slice ac t.cols.length cc, .int .i64 t.head, .int .i64 t.foot, .slice ar t.rows.length cr, .int .i64 t.gap]
  f1 : L 1 = true → L 6 = false → ∃ a' c' b' d' z', v32 = .agg #[.slice a' t.cols.length c', .int .i64 t.head, .int .i64 t.foot, .slice b' t.rows.length d', .int .i64 t.gap] ∧ ColsAt W z' (.slice a' t.cols.length c') t.cols ∧ RowsAt W z' (.slice b' t.rows.length d') t.rows
  f2 : L 2 = true → v33 = .int .i64 row
  f3 : L 3 = true → v34 = .int .i64 at'
  f4 : L 4 = true → v35 = .agg #[.string x.s, .int .i64 x.c, .int .i64 x.r, .int .i64 x.a1, .int .i64 x.b1, .int .i64 x.a2, .int .i64 x.b2, .int .i64 x.a3, .int .i64 x.b3, .int .i64 x.a4, .int .i64 x.b4]
  f5 : L 5 = true → v36 = .agg #[.string x.s, .int .i64 x.c, .int .i64 x.r, .int .i64 x.a1, .int .i64 x.b1, .int .i64 x.a2, .int .i64 x.b2, .int .i64 x.a3, .int .i64 x.b3, .int .i64 x.a4, .int .i64 x.b4]
  f6 : L 6 = true → ∃ p q r' s u B D, v37 = .tuple #[.agg #[.slice p E.1.cols.length q, .int .i64 E.1.head, .int .i64 E.1.foot, .slice r' E.1.rows.length s, .int .i64 E.1.gap], .bool E.2] ∧ u.map (·.2) = E.1.rows ∧ W3.heap.size ≤ B ∧ B ≤ D ∧ D ≤ W.heap.size ∧ OwnD W B D (.slice p E.1.cols.length q) (.slice r' E.1.rows.length s) E.1.cols u ∧ (∀ b, L 10 = true → v10 = .pointer (some ⟨b, 0, none⟩) → b < B ∨ D ≤ b)
  f7 : L 7 = true → v30 = v37
  f8 : L 8 = true → ∃ p q r' s, v37 = .tuple #[.agg #[.slice p E.1.cols.length q, .int .i64 E.1.head, .int .i64 E.1.foot, .slice r' E.1.rows.length s, .int .i64 E.1.gap], .bool E.2] ∧ v38 = .agg #[.slice p E.1.cols.length q, .int .i64 E.1.head, .int .i64 E.1.foot, .slice r' E.1.rows.length s, .int .i64 E.1.gap]
  f9 : L 9 = true → v39 = .bool E.2
  f10 : L 10 = true → L 11 = false → ∃ b, v10 = .pointer (some ⟨b, 0, none⟩) ∧ W3.heap.size ≤ b ∧ W.heap[b]? = some (.cells #[.slice none 0 0, .int .i64 0, .int .i64 0, .slice none 0 0, .int .i64 0] 56)
  f11 : L 11 = true → ∃ b p q r' s, v10 = .pointer (some ⟨b, 0, none⟩) ∧ W3.heap.size ≤ b ∧ v37 = .tuple #[.agg #[.slice p E.1.cols.length q, .int .i64 E.1.head, .int .i64 E.1.foot, .slice r' E.1.rows.length s, .int .i64 E.1.gap], .bool E.2] ∧ W.heap[b]? = some (.cells #[.slice p E.1.cols.length q, .int .i64 E.1.head, .int .i64 E.1.foot, .slice r' E.1.rows.length s, .int .i64 E.1.gap] 56)
  f12 : L 12 = true → v11 = .bool E.2
  b : L 11 = false → Below W3.heap.size W3 W
  bb : Below W3.heap.size W3 W
structure YpJ (t : T) (E : T × Bool) (x : C) (row at' : Int) (p2 r2 : Option Addr) (q2 s2 : Nat) (u2 : List (Value × R)) (W3 : World) (L : Nat → Bool) (W : World) (v13 v14 v42 v43 v44 v45 v46 v47 v48 v49 v50 : Value) : Prop where
  f0 : L 0 = true → v43 = .agg #[.slice p2 t.cols.length q2, .int .i64 t.head, .int .i64 t.foot, .slice r2 u2.length s2, .int .i64 t.gap]
  f1 : L 1 = true → v44 = .int .i64 row
  f2 : L 2 = true → v45 = .int .i64 at'
  f3 : L 3 = true → v46 = .agg #[.string x.s, .int .i64 x.c, .int .i64 x.r, .int .i64 x.a1, .int .i64 x.b1, .int .i64 x.a2, .int .i64 x.b2, .int .i64 x.a3, .int .i64 x.b3, .int .i64 x.a4, .int .i64 x.b4]
  f4 : L 4 = true → v47 = .agg #[.string x.s, .int .i64 x.c, .int .i64 x.r, .int .i64 x.a1, .int .i64 x.b1, .int .i64 x.a2, .int .i64 x.b2, .int .i64 x.a3, .int .i64 x.b3, .int .i64 x.a4, .int .i64 x.b4]
  f5 : L 5 = true → ∃ p q r' s u B D, v48 = .tuple #[.agg #[.slice p E.1.cols.length q, .int .i64 E.1.head, .int .i64 E.1.foot, .slice r' E.1.rows.length s, .int .i64 E.1.gap], .bool E.2] ∧ u.map (·.2) = E.1.rows ∧ W3.heap.size ≤ B ∧ B ≤ D ∧ D ≤ W.heap.size ∧ OwnD W B D (.slice p E.1.cols.length q) (.slice r' E.1.rows.length s) E.1.cols u ∧ (∀ b, L 9 = true → v13 = .pointer (some ⟨b, 0, none⟩) → b < B ∨ D ≤ b)
  f6 : L 6 = true → v42 = v48
  f7 : L 7 = true → ∃ p q r' s, v48 = .tuple #[.agg #[.slice p E.1.cols.length q, .int .i64 E.1.head, .int .i64 E.1.foot, .slice r' E.1.rows.length s, .int .i64 E.1.gap], .bool E.2] ∧ v49 = .agg #[.slice p E.1.cols.length q, .int .i64 E.1.head, .int .i64 E.1.foot, .slice r' E.1.rows.length s, .int .i64 E.1.gap]
  f8 : L 8 = true → v50 = .bool E.2
  f9 : L 9 = true → L 10 = false → ∃ b, v13 = .pointer (some ⟨b, 0, none⟩) ∧ W3.heap.size ≤ b ∧ W.heap[b]? = some (.cells #[.slice none 0 0, .int .i64 0, .int .i64 0, .slice none 0 0, .int .i64 0] 56)
  f10 : L 10 = true → ∃ b p q r' s, v13 = .pointer (some ⟨b, 0, none⟩) ∧ W3.heap.size ≤ b ∧ v48 = .tuple #[.agg #[.slice p E.1.cols.length q, .int .i64 E.1.head, .int .i64 E.1.foot, .slice r' E.1.rows.length s, .int .i64 E.1.gap], .bool E.2] ∧ W.heap[b]? = some (.cells #[.slice p E.1.cols.length q, .int .i64 E.1.head, .int .i64 E.1.foot, .slice r' E.1.rows.length s, .int .i64 E.1.gap] 56)
  f11 : L 11 = true → v14 = .bool E.2
  b : L 10 = false → Below W3.heap.size W3 W
  bb : Below W3.heap.size W3 W
structure ZpJ (t : T) (E : T × Bool) (x : C) (row at' : Int) (ac ar : Option Addr) (cc cr : Nat) (W3 : World) (L : Nat → Bool) (W : World) (v18 v19 v92 v93 v94 v95 v96 v97 v98 v99 v100 v101 : Value) : Prop where
  f0 : L 0 = true → v93 = .agg #[.slice ac t.cols.length cc, .int .i64 t.head, .int .i64 t.foot, .slice ar t.rows.length cr, .int .i64 t.gap]
  f1 : L 1 = true → L 6 = false → ∃ a' c' b' d' z', v94 = .agg #[.slice a' t.cols.length c', .int .i64 t.head, .int .i64 t.foot, .slice b' t.rows.length d', .int .i64 t.gap] ∧ ColsAt W z' (.slice a' t.cols.length c') t.cols ∧ RowsAt W z' (.slice b' t.rows.length d') t.rows
  f2 : L 2 = true → v95 = .int .i64 row
  f3 : L 3 = true → v96 = .int .i64 at'
  f4 : L 4 = true → v97 = .agg #[.string x.s, .int .i64 x.c, .int .i64 x.r, .int .i64 x.a1, .int .i64 x.b1, .int .i64 x.a2, .int .i64 x.b2, .int .i64 x.a3, .int .i64 x.b3, .int .i64 x.a4, .int .i64 x.b4]
  f5 : L 5 = true → v98 = .agg #[.string x.s, .int .i64 x.c, .int .i64 x.r, .int .i64 x.a1, .int .i64 x.b1, .int .i64 x.a2, .int .i64 x.b2, .int .i64 x.a3, .int .i64 x.b3, .int .i64 x.a4, .int .i64 x.b4]
  f6 : L 6 = true → ∃ p q r' s u B D, v99 = .tuple #[.agg #[.slice p E.1.cols.length q, .int .i64 E.1.head, .int .i64 E.1.foot, .slice r' E.1.rows.length s, .int .i64 E.1.gap], .bool E.2] ∧ u.map (·.2) = E.1.rows ∧ W3.heap.size ≤ B ∧ B ≤ D ∧ D ≤ W.heap.size ∧ OwnD W B D (.slice p E.1.cols.length q) (.slice r' E.1.rows.length s) E.1.cols u ∧ (∀ b, L 10 = true → v18 = .pointer (some ⟨b, 0, none⟩) → b < B ∨ D ≤ b)
  f7 : L 7 = true → v92 = v99
  f8 : L 8 = true → ∃ p q r' s, v99 = .tuple #[.agg #[.slice p E.1.cols.length q, .int .i64 E.1.head, .int .i64 E.1.foot, .slice r' E.1.rows.length s, .int .i64 E.1.gap], .bool E.2] ∧ v100 = .agg #[.slice p E.1.cols.length q, .int .i64 E.1.head, .int .i64 E.1.foot, .slice r' E.1.rows.length s, .int .i64 E.1.gap]
  f9 : L 9 = true → v101 = .bool E.2
  f10 : L 10 = true → L 11 = false → ∃ b, v18 = .pointer (some ⟨b, 0, none⟩) ∧ W3.heap.size ≤ b ∧ W.heap[b]? = some (.cells #[.slice none 0 0, .int .i64 0, .int .i64 0, .slice none 0 0, .int .i64 0] 56)
  f11 : L 11 = true → ∃ b p q r' s, v18 = .pointer (some ⟨b, 0, none⟩) ∧ W3.heap.size ≤ b ∧ v99 = .tuple #[.agg #[.slice p E.1.cols.length q, .int .i64 E.1.head, .int .i64 E.1.foot, .slice r' E.1.rows.length s, .int .i64 E.1.gap], .bool E.2] ∧ W.heap[b]? = some (.cells #[.slice p E.1.cols.length q, .int .i64 E.1.head, .int .i64 E.1.foot, .slice r' E.1.rows.length s, .int .i64 E.1.gap] 56)
  f12 : L 12 = true → v19 = .bool E.2
  b : L 11 = false → Below W3.heap.size W3 W
  bb : Below W3.heap.size W3 W
set_option maxRecDepth 100000 in
set_option maxHeartbeats 8000000 in
theorem walk (v : Value) (t : T) (row at' : Int) (hrow : -9223372036854775808 ≤ row ∧ row ≤ 9223372036854775807) (x : C) (hx : x.s.size ≤ maxLen) (w : World) (h : TblAt w 0 v t) :
    Calls Try.prog 5 #[v, .int .i64 row, .int .i64 at', .agg #[.string x.s, .int .i64 x.c, .int .i64 x.r, .int .i64 x.a1, .int .i64 x.b1, .int .i64 x.a2, .int .i64 x.b2, .int .i64 x.a3, .int .i64 x.b3, .int .i64 x.a4, .int .i64 x.b4]] w fun e w' => e = .returned (.bool true) ∧ Below w.heap.size w w' := by
  obtain ⟨vc, vr, rfl, hc, hr⟩ := h
  obtain ⟨ac, cc, rfl, _⟩ := At.form hc
  obtain ⟨ar, cr, rfl, _⟩ := At.form hr
  have HK := Hid.intro (k_alloc (k_alloc (Below.refl w.heap.size w) (.cells #[.slice ac t.cols.length cc, .int .i64 t.head, .int .i64 t.foot, .slice ar t.rows.length cr, .int .i64 t.gap] 46)) (.cells #[.string x.s, .int .i64 x.c, .int .i64 x.r, .int .i64 x.a1, .int .i64 x.b1, .int .i64 x.a2, .int .i64 x.b2, .int .i64 x.a3, .int .i64 x.b3, .int .i64 x.a4, .int .i64 x.b4] 50))
  have HA := Hid.intro (alloc_at (o := (.cells #[.string x.s, .int .i64 x.c, .int .i64 x.r, .int .i64 x.a1, .int .i64 x.b1, .int .i64 x.a2, .int .i64 x.b2, .int .i64 x.a3, .int .i64 x.b3, .int .i64 x.a4, .int .i64 x.b4] 50)) (newestB w (.cells #[.slice ac t.cols.length cc, .int .i64 t.head, .int .i64 t.foot, .slice ar t.rows.length cr, .int .i64 t.gap] 46)))
  have HC : Hid (((w.alloc (.cells #[.slice ac t.cols.length cc, .int .i64 t.head, .int .i64 t.foot, .slice ar t.rows.length cr, .int .i64 t.gap] 46)).alloc (.cells #[.string x.s, .int .i64 x.c, .int .i64 x.r, .int .i64 x.a1, .int .i64 x.b1, .int .i64 x.a2, .int .i64 x.b2, .int .i64 x.a3, .int .i64 x.b3, .int .i64 x.a4, .int .i64 x.b4] 50)).heap[w.heap.size + 1]? = some (.cells (cellVs x).toArray 50)) := by
    have h := newestB (w.alloc (.cells #[.slice ac t.cols.length cc, .int .i64 t.head, .int .i64 t.foot, .slice ar t.rows.length cr, .int .i64 t.gap] 46)) (.cells #[.string x.s, .int .i64 x.c, .int .i64 x.r, .int .i64 x.a1, .int .i64 x.b1, .int .i64 x.a2, .int .i64 x.b2, .int .i64 x.a3, .int .i64 x.b3, .int .i64 x.a4, .int .i64 x.b4] 50)
    show _ = _
    simpa [cellVs] using h
  have HTx : Hid (TxM t) := txM_at hr
  have C0 := Hid.intro hc
  have R0 := Hid.intro hr
  clear hc hr
  have T0 : Hid (∀ w', Below w.heap.size w w' → TblAt w' 0 (.agg #[.slice ac t.cols.length cc, .int .i64 t.head, .int .i64 t.foot, .slice ar t.rows.length cr, .int .i64 t.gap]) t) := fun w' k => ⟨_, _, rfl, C0.out.kept k, R0.out.kept k⟩
  clear C0 R0
  by_cases hn : totT t ≤ 1048576
  · have hg : ¬ (1048576 : Int) - (totT t : Int) < 0 := by omega
    have HL := Hid.intro (leftOf_pos (n := 1048576) (m := totT t) (by omega))
    have HTe : Hid (TxM (edPut t row at' x).1) := txM_put HTx.out hx
    have HSm : Hid (SmT (edPut t row at' x).1) := smT_put
    have KSp := Hid.intro (fun (a b : Option Addr) (c d : Nat) (W : World) (z : Nat) (h1 : ColsAt W z (.slice a t.cols.length c) t.cols) (h2 : RowsAt W z (.slice b t.rows.length d) t.rows) => specEdtPut a b c d t row at' hrow x hx W h1 h2)
    have KIm := Hid.intro (fun (a b : Option Addr) (c d : Nat) (W : World) (z : Nat) (h1 : ColsAt W z (.slice a t.cols.length c) t.cols) (h2 : RowsAt W z (.slice b t.rows.length d) t.rows) => implEdtPut a b c d t row at' hrow x hx W h1 h2)
    generalize edPut t row at' x = E at HTe HSm KSp KIm
    have hbb : (E.2 != E.2) = false := by simp
    go_enter Try.func5, Try.ntmps5
    go_upto_region 1 with fail
    generalize (w.alloc (.cells #[.slice ac t.cols.length cc, .int .i64 t.head, .int .i64 t.foot, .slice ar t.rows.length cr, .int .i64 t.gap] 46)).alloc (.cells #[.string x.s, .int .i64 x.c, .int .i64 x.r, .int .i64 x.a1, .int .i64 x.b1, .int .i64 x.a2, .int .i64 x.b2, .int .i64 x.a3, .int .i64 x.b3, .int .i64 x.a4, .int .i64 x.b4] 50) = W0 at HK HA HC ⊢
    have hcb : w.heap.size < w.heap.size + 1 := by omega
    generalize w.heap.size + 1 = cb at HC hcb ⊢
    obtain ⟨m0, m1, m2, m3, m4⟩ := fiveO HA.out
    go_wp2_with fail
    refine (szTblTable_any _ t _ (T0.out _ HK.out)).mono ?_
    rw [HL.out]
    rintro e w1 ⟨rfl, hb1⟩
    replace HK := Hid.intro (k_trans HK.out hb1)
    replace HA := Hid.intro (box_kept HA.out hb1)
    replace HC := Hid.intro (box_kept HC.out hb1)
    clear m0 m1 m2 m3 m4
    clear hb1
    obtain ⟨n0, n1, n2, n3, n4, n5, n6, n7, n8, n9, n10⟩ := elevenO HC.out
    have hg0 : ¬ (1048576 : Int) - (totT t : Int) < 0 := by omega
    go_wp2_with fail
    refine (szTblCell_any _ _ _ _ _ _ _ _ _ _ _ _ (by omega) (by omega) hx _).mono ?_
    by_cases hsx : (x.s.size : Int) ≤ 1048576 - (totT t : Int)
    case neg =>
      rw [if_neg hsx]
      rintro e w2 ⟨rfl, hb2⟩
      replace HK := Hid.intro (k_trans HK.out hb2)
      clear hb2
      go_wp2
      go_ret
      exact ⟨rfl, HK.out⟩
    rw [if_pos hsx]
    have hg1 : ¬ (1048576 : Int) - (totT t : Int) - (x.s.size : Int) < 0 := by omega
    rintro e w2 ⟨rfl, hb2⟩
    replace HK := Hid.intro (k_trans HK.out hb2)
    replace HA := Hid.intro (box_kept HA.out hb2)
    replace HC := Hid.intro (box_kept HC.out hb2)
    clear hb2 n0 n1 n2 n3 n4 n5 n6 n7 n8 n9 n10
    go_upto_region 8 with fail
    generalize Value.agg #[.slice ac t.cols.length cc, .int .i64 t.head, .int .i64 t.foot, .slice ar t.rows.length cr, .int .i64 t.gap] = pa
    generalize Value.agg #[.string x.s, .int .i64 x.c, .int .i64 x.r, .int .i64 x.a1, .int .i64 x.b1, .int .i64 x.a2, .int .i64 x.b2, .int .i64 x.a3, .int .i64 x.b3, .int .i64 x.a4, .int .i64 x.b4] = pc
    have hmx : Try.prog.follows .mixedOrders = true := by kernel_rfl
    have lA := (Array.getElem?_eq_some_iff.1 HA.out).1
    have lC := (Array.getElem?_eq_some_iff.1 HC.out).1
    have KSw := Hid.intro (fun (W : World) (hW : Below w2.heap.size w2 W) (a b : Option Addr) (c d : Nat) (z : Nat) (h1 : ColsAt W z (.slice a t.cols.length c) t.cols) (h2 : RowsAt W z (.slice b t.rows.length d) t.rows) => ans_of (KSp.out a b c d W z h1 h2))
    refine wp_region_inv2 (fun L act W => ∃ v10 v11 v30 v31 v32 v33 v34 v35 v36 v37 v38 v39 : Value, act = ⟨#[pa, .int .i64 row, .int .i64 at', pc, .pointer (some ⟨w.heap.size, 0, none⟩), undef, undef, .pointer (some ⟨cb, 0, none⟩), .bool false, .int .i64 ((1048576 : Int) - (totT t : Int) - (x.s.size : Int)), v10, v11, undef, undef, undef, undef, undef, undef, undef, undef, pa, .int .i64 1048576, .int .i64 ((1048576 : Int) - (totT t : Int)), .int .i64 ((1048576 : Int) - (totT t : Int)), .bool (decide ((1048576 : Int) - (totT t : Int) < 0)), pc, .int .i64 ((1048576 : Int) - (totT t : Int)), .int .i64 ((1048576 : Int) - (totT t : Int) - (x.s.size : Int)), .int .i64 ((1048576 : Int) - (totT t : Int) - (x.s.size : Int)), .bool (decide ((1048576 : Int) - (totT t : Int) - (x.s.size : Int) < 0)), v30, v31, v32, v33, v34, v35, v36, v37, v38, v39, undef, undef, undef, undef, undef, undef, undef, undef, undef, undef, undef, undef, undef, undef, undef, undef, undef, undef, undef, undef, undef, undef, undef, undef, undef, undef, undef, undef, undef, undef, undef, undef, undef, undef, undef, undef, undef, undef, undef, undef, undef, undef, undef, undef, undef, undef, undef, undef, undef, undef, undef, undef, undef, undef, undef, undef, undef, undef, undef, undef, undef, undef, undef, undef, undef, undef, undef, undef, undef, undef, undef, undef, undef, undef, undef, undef, undef, undef, undef], []⟩ ∧ XpJ t E x row at' ac ar cc cr w2 L W v10 v11 v30 v31 v32 v33 v34 v35 v36 v37 v38 v39) hmx (by kernel_rfl) ?hs ?hd ?h0
    case h0 => exact ⟨_, _, _, _, _, _, _, _, _, _, _, _, rfl, ⟨(fun h => by cases h), (fun h => by cases h), (fun h => by cases h), (fun h => by cases h), (fun h => by cases h), (fun h => by cases h), (fun h => by cases h), (fun h => by cases h), (fun h => by cases h), (fun h => by cases h), (fun h => by cases h), (fun h => by cases h), (fun h => by cases h), (fun _ => k_drew (Below.refl _ _)), k_drew (Below.refl _ _)⟩⟩
    case hd =>
      intro L act W hJ hall
      obtain ⟨v10, v11, v30, v31, v32, v33, v34, v35, v36, v37, v38, v39, ha, J⟩ := hJ
      subst ha
      obtain ⟨p1, q1, r1, s1, u1, B1, D1, e3, hu, hB1, hB12, hB2, hO, hrel⟩ := J.f6 (hall 6 (by decide))
      obtain ⟨b10, p', q', r', s', e5, hbw, e4, hbk⟩ := J.f11 (hall 11 (by decide))
      have hrl := hrel b10 (hall 10 (by decide)) e5
      subst e5
      obtain rfl := J.f12 (hall 12 (by decide))
      have hb := J.bb
      have e6 := e3.symm.trans e4
      simp only [Value.tuple.injEq, Array.mk.injEq, List.cons.injEq, Value.agg.injEq, Value.slice.injEq, and_true, true_and] at e6
      obtain ⟨⟨rfl, rfl⟩, rfl, rfl⟩ := e6
      clear J hall hrel e3 e4
      have hul : E.1.rows.length = u1.length := by rw [← hu, List.length_map]
      rw [hul] at hO hbk
      have HU1 := Hid.intro hu
      clear hul hu
      rename World => W3
      have O1 := Hid.intro hO
      have H10 := Hid.intro hbk
      have hb10 := (Array.getElem?_eq_some_iff.1 hbk).1
      replace HK := Hid.intro (k_trans HK.out hb)
      replace HA := Hid.intro (box_kept HA.out hb)
      replace HC := Hid.intro (box_kept HC.out hb)
      have hD1 := hB2
      clear hb hO hbk hrl hB1 hB12 hB2 hbw lA lC KSw
      have hAB : w.heap.size < W3.heap.size := (Array.getElem?_eq_some_iff.1 HA.out).1
      have hCB : cb < W3.heap.size := (Array.getElem?_eq_some_iff.1 HC.out).1
      obtain ⟨m0, m1, m2, m3, m4⟩ := fiveO HA.out
      go_wp2_with fail
      refine (toTblTable_own _ t hn _ (T0.out _ HK.out)).mono ?_
      rintro e w4 ⟨p2, q2, r2, s2, rfl, ⟨u2, hu2, hOc, hOr⟩, hb4⟩
      obtain ⟨_, _, e2, _⟩ := row_form hOr.own
      simp only [Value.slice.injEq] at e2
      have hul : t.rows.length = u2.length := e2.2.1
      clear e2
      rw [hul]
      rw [hul] at hOr
      have HU2 := Hid.intro hu2
      have O2 := Hid.intro (OwnD.of hOc hOr)
      replace HK := Hid.intro (k_trans HK.out hb4)
      replace HA := Hid.intro (box_kept HA.out hb4)
      replace HC := Hid.intro (box_kept HC.out hb4)
      replace H10 := Hid.intro (box_kept H10.out hb4)
      replace O1 := Hid.intro (O1.out.kept hb4)
      clear m0 m1 m2 m3 m4
      have hD2 := hb4.size
      clear hb4 hOc hOr hu2 hul
      replace HK := Hid.intro (k_trans HK.out (k_alloc (Below.refl _ _) (.cells #[.slice p2 t.cols.length q2, .int .i64 t.head, .int .i64 t.foot, .slice r2 u2.length s2, .int .i64 t.gap] 56)))
      replace HA := Hid.intro (box_kept HA.out (k_alloc (Below.refl _ _) (.cells #[.slice p2 t.cols.length q2, .int .i64 t.head, .int .i64 t.foot, .slice r2 u2.length s2, .int .i64 t.gap] 56)))
      replace HC := Hid.intro (box_kept HC.out (k_alloc (Below.refl _ _) (.cells #[.slice p2 t.cols.length q2, .int .i64 t.head, .int .i64 t.foot, .slice r2 u2.length s2, .int .i64 t.gap] 56)))
      replace H10 := Hid.intro (box_kept H10.out (k_alloc (Below.refl _ _) (.cells #[.slice p2 t.cols.length q2, .int .i64 t.head, .int .i64 t.foot, .slice r2 u2.length s2, .int .i64 t.gap] 56)))
      replace O1 := Hid.intro (O1.out.kept (k_alloc (Below.refl _ _) (.cells #[.slice p2 t.cols.length q2, .int .i64 t.head, .int .i64 t.foot, .slice r2 u2.length s2, .int .i64 t.gap] 56)))
      replace O2 := Hid.intro (O2.out.kept (k_alloc (Below.refl _ _) (.cells #[.slice p2 t.cols.length q2, .int .i64 t.head, .int .i64 t.foot, .slice r2 u2.length s2, .int .i64 t.gap] 56)))
      have H12 := Hid.intro (newestB w4 (.cells #[.slice p2 t.cols.length q2, .int .i64 t.head, .int .i64 t.foot, .slice r2 u2.length s2, .int .i64 t.gap] 56))
      have hX12 : w4.heap.size < (w4.alloc (.cells #[.slice p2 t.cols.length q2, .int .i64 t.head, .int .i64 t.foot, .slice r2 u2.length s2, .int .i64 t.gap] 56)).heap.size := by simp
      go_upto_region 10 with fail
      generalize w4.alloc (.cells #[.slice p2 t.cols.length q2, .int .i64 t.head, .int .i64 t.foot, .slice r2 u2.length s2, .int .i64 t.gap] 56) = W4 at HK HA HC O1 O2 H10 H12 hX12 ⊢
      generalize w4.heap.size = b12 at O2 H12 hX12 hD2 ⊢
      generalize W3.heap.size = b2 at O2 hD1 hb10 hD2 hAB hCB ⊢
      have l12 := (Array.getElem?_eq_some_iff.1 H12.out).1
      have lC := (Array.getElem?_eq_some_iff.1 HC.out).1
      have KIw : Hid (∀ W, Below W4.heap.size W4 W → Calls Try.prog 25 #[.agg #[.slice p2 t.cols.length q2, .int .i64 t.head, .int .i64 t.foot, .slice r2 u2.length s2, .int .i64 t.gap], .int .i64 row, .int .i64 at', .agg #[.string x.s, .int .i64 x.c, .int .i64 x.r, .int .i64 x.a1, .int .i64 x.b1, .int .i64 x.a2, .int .i64 x.b2, .int .i64 x.a3, .int .i64 x.b3, .int .i64 x.a4, .int .i64 x.b4]] W fun e w' => ∃ p q r' s u, e = .returned (.tuple #[.agg #[.slice p E.1.cols.length q, .int .i64 E.1.head, .int .i64 E.1.foot, .slice r' E.1.rows.length s, .int .i64 E.1.gap], .bool E.2]) ∧ u.map (·.2) = E.1.rows ∧ OwnD w' W.heap.size w'.heap.size (.slice p E.1.cols.length q) (.slice r' E.1.rows.length s) E.1.cols u ∧ Below W.heap.size W w') := fun W hW => by
        obtain ⟨_, _, eT, hC2, hR2⟩ := (O2.out.kept hW).tbl HU2.out HTx.out
        simp only [Value.agg.injEq, Array.mk.injEq, List.cons.injEq, and_true, true_and] at eT
        obtain ⟨rfl, rfl⟩ := eT
        have hul : u2.length = t.rows.length := by rw [← HU2.out, List.length_map]
        rw [hul] at hR2
        have k := ans_of (KIm.out p2 r2 q2 s2 W _ hC2 hR2)
        rw [← hul] at k
        exact k
      generalize Value.agg #[.slice ac t.cols.length cc, .int .i64 t.head, .int .i64 t.foot, .slice ar u2.length cr, .int .i64 t.gap] = pa2
      generalize Value.agg #[.slice p2 t.cols.length q2, .int .i64 t.head, .int .i64 t.foot, .slice r2 u2.length s2, .int .i64 t.gap] = px
      refine wp_region_inv2 (fun L act W => ∃ v13 v14 v42 v43 v44 v45 v46 v47 v48 v49 v50 : Value, act = ⟨#[pa, .int .i64 row, .int .i64 at', pc, .pointer (some ⟨w.heap.size, 0, none⟩), undef, undef, .pointer (some ⟨cb, 0, none⟩), .bool false, .int .i64 ((1048576 : Int) - (totT t : Int) - (x.s.size : Int)), .pointer (some ⟨b10, 0, none⟩), .bool E.2, .pointer (some ⟨b12, 0, none⟩), v13, v14, undef, undef, undef, undef, undef, pa, .int .i64 1048576, .int .i64 ((1048576 : Int) - (totT t : Int)), .int .i64 ((1048576 : Int) - (totT t : Int)), .bool (decide ((1048576 : Int) - (totT t : Int) < 0)), pc, .int .i64 ((1048576 : Int) - (totT t : Int)), .int .i64 ((1048576 : Int) - (totT t : Int) - (x.s.size : Int)), .int .i64 ((1048576 : Int) - (totT t : Int) - (x.s.size : Int)), .bool (decide ((1048576 : Int) - (totT t : Int) - (x.s.size : Int) < 0)), v30, v31, v32, v33, v34, v35, v36, v37, v38, v39, pa2, px, v42, v43, v44, v45, v46, v47, v48, v49, v50, undef, undef, undef, undef, undef, undef, undef, undef, undef, undef, undef, undef, undef, undef, undef, undef, undef, undef, undef, undef, undef, undef, undef, undef, undef, undef, undef, undef, undef, undef, undef, undef, undef, undef, undef, undef, undef, undef, undef, undef, undef, undef, undef, undef, undef, undef, undef, undef, undef, undef, undef, undef, undef, undef, undef, undef, undef, undef, undef, undef, undef, undef, undef, undef, undef, undef, undef, undef], []⟩ ∧ YpJ t E x row at' p2 r2 q2 s2 u2 W4 L W v13 v14 v42 v43 v44 v45 v46 v47 v48 v49 v50) hmx (by kernel_rfl) ?hsb ?hdb ?h0b
      case h0b => exact ⟨_, _, _, _, _, _, _, _, _, _, _, rfl, ⟨(fun h => by cases h), (fun h => by cases h), (fun h => by cases h), (fun h => by cases h), (fun h => by cases h), (fun h => by cases h), (fun h => by cases h), (fun h => by cases h), (fun h => by cases h), (fun h => by cases h), (fun h => by cases h), (fun h => by cases h), (fun _ => k_drew (Below.refl _ _)), k_drew (Below.refl _ _)⟩⟩
      case hdb =>
        intro L act W hJ hall
        obtain ⟨v13, v14, v42, v43, v44, v45, v46, v47, v48, v49, v50, ha, J⟩ := hJ
        subst ha
        obtain ⟨p3, q3, r3, s3, u3, B3, D3, e3, hu, hB1, hB12, hB2, hO, hrel⟩ := J.f5 (hall 5 (by decide))
        obtain ⟨b13, p', q', r', s', e5, hbw, e4, hbk⟩ := J.f10 (hall 10 (by decide))
        have hrl := hrel b13 (hall 9 (by decide)) e5
        subst e5
        obtain rfl := J.f11 (hall 11 (by decide))
        have hb := J.bb
        have e6 := e3.symm.trans e4
        simp only [Value.tuple.injEq, Array.mk.injEq, List.cons.injEq, Value.agg.injEq, Value.slice.injEq, and_true, true_and] at e6
        obtain ⟨⟨rfl, rfl⟩, rfl, rfl⟩ := e6
        clear J hall hrel e3 e4
        have hul : E.1.rows.length = u3.length := by rw [← hu, List.length_map]
        rw [hul] at hO hbk
        have HU3 := Hid.intro hu
        clear hul hu
        rename World => W5
        have O3 := Hid.intro hO
        have H13 := Hid.intro hbk
        have hb13 := (Array.getElem?_eq_some_iff.1 hbk).1
        replace HK := Hid.intro (k_trans HK.out hb)
        replace HA := Hid.intro (box_kept HA.out hb)
        replace HC := Hid.intro (box_kept HC.out hb)
        replace H10 := Hid.intro (box_kept H10.out hb)
        replace H12 := Hid.intro (box_kept H12.out hb)
        replace O1 := Hid.intro (O1.out.kept hb)
        replace O2 := Hid.intro (O2.out.kept hb)
        clear hb hO hbk KIw lC l12
        go_upto_region 11 with fail
        generalize W4.heap.size = b3 at hB1 hbw hX12 ⊢
        obtain ⟨m0, m1, m2, m3, m4⟩ := fiveO H13.out
        obtain ⟨n0, n1, n2, n3, n4⟩ := fiveO H10.out
        go_wp2_with fail
        refine (eqTblTable_any _ _ E.1 _ (O3.out.tbl HU3.out HTe.out) (O1.out.tbl HU1.out HTe.out)).mono ?_
        rintro e w6 ⟨rfl, hb6⟩
        have hs6 := Nat.le_trans hB2 hb6.size
        replace HK := Hid.intro (k_trans HK.out hb6)
        replace HA := Hid.intro (box_kept HA.out hb6)
        replace HC := Hid.intro (box_kept HC.out hb6)
        replace H10 := Hid.intro (box_kept H10.out hb6)
        replace H12 := Hid.intro (box_kept H12.out hb6)
        replace H13 := Hid.intro (box_kept H13.out hb6)
        replace O1 := Hid.intro (O1.out.kept hb6)
        replace O2 := Hid.intro (O2.out.kept hb6)
        replace O3 := Hid.intro (O3.out.kept hb6)
        clear m0 m1 m2 m3 m4 n0 n1 n2 n3 n4
        clear hb6
        go_upto_region 13 with fail
        have HKd := Hid.intro (k_drew HK.out)
        have HAd : Hid (w6.drew.heap[w.heap.size]? = some (.cells #[.slice ac t.cols.length cc, .int .i64 t.head, .int .i64 t.foot, .slice ar t.rows.length cr, .int .i64 t.gap] 46)) := HA.out
        have H12d : Hid (w6.drew.heap[b12]? = some (.cells #[.slice p2 t.cols.length q2, .int .i64 t.head, .int .i64 t.foot, .slice r2 u2.length s2, .int .i64 t.gap] 56)) := H12.out
        obtain ⟨m0, m1, m2, m3, m4⟩ := fiveO HA.out
        obtain ⟨n0, n1, n2, n3, n4⟩ := fiveO H12.out
        have hlA : w.heap.size < w6.heap.size := (Array.getElem?_eq_some_iff.1 HA.out).1
        have hl12 : b12 < w6.heap.size := (Array.getElem?_eq_some_iff.1 H12.out).1
        go_region_with (first
          | (go_at_call 23; refine (toTblTable_any _ t hn _ (T0.out _ HKd.out)).mono ?_; rintro e w7 ⟨ac7, cc7, ar7, cr7, rfl, hC7, hR7, hb7⟩; have hb7' := k_trans (k_drew (Below.refl w6.heap.size w6)) hb7; have HC7 := Hid.intro hC7; have HR7 := Hid.intro hR7; have HB7 := Hid.intro hb7'; obtain ⟨i0, i1, i2, i3, i4⟩ := fiveO (box_kept HA.out hb7'); obtain ⟨j0, j1, j2, j3, j4⟩ := fiveO (box_kept H12.out hb7'); clear hb7 hb7' hC7 hR7)
          | (go_at_call 26; refine (eqTblTable_any _ _ t _ ((O2.out.kept HB7.out).tbl HU2.out HTx.out) ⟨_, _, rfl, HC7.out, HR7.out⟩).mono ?_; rintro e w8 ⟨rfl, hb8⟩; have HB8 := Hid.intro (k_trans HB7.out hb8); clear hb8))
        all_goals
          have hs8 := Nat.le_trans hs6 HB8.out.size
          replace HK := Hid.intro (k_trans HK.out HB8.out)
          replace HA := Hid.intro (box_kept HA.out HB8.out)
          replace HC := Hid.intro (box_kept HC.out HB8.out)
          replace H10 := Hid.intro (box_kept H10.out HB8.out)
          replace H12 := Hid.intro (box_kept H12.out HB8.out)
          replace H13 := Hid.intro (box_kept H13.out HB8.out)
          replace O1 := Hid.intro (O1.out.kept HB8.out)
          replace O2 := Hid.intro (O2.out.kept HB8.out)
          replace O3 := Hid.intro (O3.out.kept HB8.out)
          clear HB7 HB8 HC7 HR7 i0 i1 i2 i3 i4 j0 j1 j2 j3 j4 HKd HAd H12d
          clear m0 m1 m2 m3 m4 n0 n1 n2 n3 n4
          obtain ⟨m0, m1, m2, m3, m4⟩ := fiveO H12.out
          have hsw : b12 ≤ w8.heap.size := Nat.le_of_lt (Array.getElem?_eq_some_iff.1 H12.out).1
          have KM := Hid.intro (markTblTable_any p2 r2 q2 s2 (.int .i64 t.head) (.int .i64 t.foot) (.int .i64 t.gap) t.cols u2 (kEnd_tot rfl HU2.out hn) b2 b12 w8 O2.out hsw hD2)
          have hke : ¬ ((kEnd t.cols u2 : Nat) : Int) < 0 := by omega
          generalize kEnd t.cols u2 = k2 at KM hke
          go_wp2_with fail
          refine KM.out.mono ?_
          rintro e w9 ⟨rfl, hM9, hO9⟩
          have hs9 := Nat.le_trans hs8 hO9.below.size
          replace HK := Hid.intro (Out.kept HK.out hO9 (by omega))
          replace HA := Hid.intro (Out.box HA.out hO9 (.inl hAB))
          replace HC := Hid.intro (Out.box HC.out hO9 (.inl hCB))
          replace H10 := Hid.intro (Out.box H10.out hO9 (.inl hb10))
          replace H12 := Hid.intro (Out.box H12.out hO9 (.inr (Nat.le_refl _)))
          replace H13 := Hid.intro (Out.box H13.out hO9 (.inr (by omega)))
          replace O1 := Hid.intro (O1.out.out hO9 (.inl (by omega)))
          replace O3 := Hid.intro (O3.out.out hO9 (.inr (by omega)))
          clear m0 m1 m2 m3 m4
          clear hM9 hO9 KM O2 HU2
          obtain ⟨m0, m1, m2, m3, m4⟩ := fiveO H13.out
          obtain ⟨n0, n1, n2, n3, n4⟩ := fiveO H10.out
          go_wp2_with fail
          refine (eqTblTable_any _ _ E.1 _ (O3.out.tbl HU3.out HTe.out) (O1.out.tbl HU1.out HTe.out)).mono ?_
          rintro e w10 ⟨rfl, hb10'⟩
          have hsw3 := Nat.le_trans hs9 hb10'.size
          replace HK := Hid.intro (k_trans HK.out hb10')
          replace HA := Hid.intro (box_kept HA.out hb10')
          replace HC := Hid.intro (box_kept HC.out hb10')
          replace H10 := Hid.intro (box_kept H10.out hb10')
          replace H13 := Hid.intro (box_kept H13.out hb10')
          replace O1 := Hid.intro (O1.out.kept hb10')
          replace O3 := Hid.intro (O3.out.kept hb10')
          clear m0 m1 m2 m3 m4 n0 n1 n2 n3 n4
          clear hb10' H12
          obtain ⟨m0, m1, m2, m3, m4⟩ := fiveO H13.out
          have KM := Hid.intro (markTblTable_any p3 r3 q3 s3 (.int .i64 E.1.head) (.int .i64 E.1.foot) (.int .i64 E.1.gap) E.1.cols u3 (kEnd_sm rfl HU3.out HSm.out) B3 D3 w10 O3.out hsw3 hB12)
          have KH := Hid.intro (fun W h => heldTblTable_any p3 r3 q3 s3 (.int .i64 E.1.head) (.int .i64 E.1.foot) (.int .i64 E.1.gap) E.1.cols u3 (kEnd_sm rfl HU3.out HSm.out) B3 D3 W h)
          have hke3 : ¬ ((kEnd E.1.cols u3 : Nat) : Int) < 0 := by omega
          have hkk : (((kEnd E.1.cols u3 : Nat) : Int) != ((kEnd E.1.cols u3 : Nat) : Int)) = false := by simp
          generalize kEnd E.1.cols u3 = k3 at KM KH hke3 hkk
          go_wp2_with fail
          refine KM.out.mono ?_
          rintro e w11 ⟨rfl, hM11, hO11⟩
          have HM := Hid.intro hM11
          replace HK := Hid.intro (Out.kept HK.out hO11 (by omega))
          replace HA := Hid.intro (Out.box HA.out hO11 (.inl (by omega)))
          replace HC := Hid.intro (Out.box HC.out hO11 (.inl (by omega)))
          replace H10 := Hid.intro (Out.box H10.out hO11 (.inl (by omega)))
          replace H13 := Hid.intro (Out.box H13.out hO11 hrl)
          replace O1 := Hid.intro (O1.out.out hO11 (.inl (by omega)))
          clear m0 m1 m2 m3 m4
          clear hM11 hO11 KM O3
          obtain ⟨m0, m1, m2, m3, m4⟩ := fiveO H13.out
          have KH1 := Hid.intro (KH.out _ HM.out)
          go_wp2_with fail
          refine KH1.out.mono ?_
          rintro e w12 ⟨rfl, hb12⟩
          replace HK := Hid.intro (k_trans HK.out hb12)
          replace HA := Hid.intro (box_kept HA.out hb12)
          replace HC := Hid.intro (box_kept HC.out hb12)
          replace H10 := Hid.intro (box_kept H10.out hb12)
          replace H13 := Hid.intro (box_kept H13.out hb12)
          replace O1 := Hid.intro (O1.out.kept hb12)
          replace HM := Hid.intro (HM.out.kept hb12)
          clear m0 m1 m2 m3 m4
          clear hb12 KH1
          go_upto_region 27 with fail
          have lA := (Array.getElem?_eq_some_iff.1 HA.out).1
          have lC := (Array.getElem?_eq_some_iff.1 HC.out).1
          have KIw := Hid.intro (fun (W : World) (hW : Below w12.heap.size w12 W) (a b : Option Addr) (c d : Nat) (z : Nat) (h1 : ColsAt W z (.slice a t.cols.length c) t.cols) (h2 : RowsAt W z (.slice b t.rows.length d) t.rows) => ans_of (KIm.out a b c d W z h1 h2))
          generalize Value.agg #[.slice p3 E.1.cols.length q3, .int .i64 E.1.head, .int .i64 E.1.foot, .slice r3 u3.length s3, .int .i64 E.1.gap] = vg
          generalize Value.agg #[.slice p1 E.1.cols.length q1, .int .i64 E.1.head, .int .i64 E.1.foot, .slice r1 u1.length s1, .int .i64 E.1.gap] = vs1
          generalize Value.agg #[.slice p2 t.cols.length q2, .int .i64 t.head, .int .i64 t.foot, .slice r2 u2.length s2, .int .i64 t.gap] = vx2
          generalize Value.agg #[.slice ac t.cols.length cc, .int .i64 t.head, .int .i64 t.foot, .slice ar t.rows.length cr, .int .i64 t.gap] = va2
          generalize Value.agg #[.slice ac7 t.cols.length cc7, .int .i64 t.head, .int .i64 t.foot, .slice ar7 t.rows.length cr7, .int .i64 t.gap] = va7
          refine wp_region_inv2 (fun L act W => ∃ v18 v19 v92 v93 v94 v95 v96 v97 v98 v99 v100 v101 : Value, act = ⟨#[pa, .int .i64 row, .int .i64 at', pc, .pointer (some ⟨w.heap.size, 0, none⟩), undef, undef, .pointer (some ⟨cb, 0, none⟩), .bool false, .int .i64 ((1048576 : Int) - (totT t : Int) - (x.s.size : Int)), .pointer (some ⟨b10, 0, none⟩), .bool E.2, .pointer (some ⟨b12, 0, none⟩), .pointer (some ⟨b13, 0, none⟩), .bool E.2, .int .i64 k2, .int .i64 k3, .int .i64 k3, v18, v19, pa, .int .i64 1048576, .int .i64 ((1048576 : Int) - (totT t : Int)), .int .i64 ((1048576 : Int) - (totT t : Int)), .bool (decide ((1048576 : Int) - (totT t : Int) < 0)), pc, .int .i64 ((1048576 : Int) - (totT t : Int)), .int .i64 ((1048576 : Int) - (totT t : Int) - (x.s.size : Int)), .int .i64 ((1048576 : Int) - (totT t : Int) - (x.s.size : Int)), .bool (decide ((1048576 : Int) - (totT t : Int) - (x.s.size : Int) < 0)), v30, v31, v32, v33, v34, v35, v36, v37, v38, v39, pa2, px, v42, v43, v44, v45, v46, v47, v48, v49, v50, vg, vs1, .bool true, .bool false, .bool false, .bool E.2, .bool E.2, .bool false, .bool false, vx2, va2, va7, .bool true, .bool false, vx2, .int .i64 1, .int .i64 k2, .int .i64 k2, .bool (decide ((k2 : Int) < 0)), .bool (decide ((k2 : Int) < 0)), vg, vs1, .bool true, .bool false, .bool (decide ((k2 : Int) < 0)), .bool (decide ((k2 : Int) < 0)), .bool E.2, .bool E.2, .bool false, .bool (decide ((k2 : Int) < 0)), vg, .int .i64 1, .int .i64 k3, vg, .int .i64 1, .int .i64 k3, .int .i64 k3, .bool (decide ((k3 : Int) < 0)), .int .i64 k3, .int .i64 k3, .bool false, v92, v93, v94, v95, v96, v97, v98, v99, v100, v101, undef, undef, undef, undef, undef, undef, undef, undef, undef, undef, undef, undef, undef, undef, undef, undef, undef], []⟩ ∧ ZpJ t E x row at' ac ar cc cr w12 L W v18 v19 v92 v93 v94 v95 v96 v97 v98 v99 v100 v101) hmx (by kernel_rfl) ?hsc ?hdc ?h0c
          case h0c => exact ⟨_, _, _, _, _, _, _, _, _, _, _, _, rfl, ⟨(fun h => by cases h), (fun h => by cases h), (fun h => by cases h), (fun h => by cases h), (fun h => by cases h), (fun h => by cases h), (fun h => by cases h), (fun h => by cases h), (fun h => by cases h), (fun h => by cases h), (fun h => by cases h), (fun h => by cases h), (fun h => by cases h), (fun _ => k_drew (Below.refl _ _)), k_drew (Below.refl _ _)⟩⟩
          case hdc =>
            intro L act W hJ hall
            obtain ⟨v18, v19, v92, v93, v94, v95, v96, v97, v98, v99, v100, v101, ha, J⟩ := hJ
            subst ha
            obtain ⟨p4, q4, r4, s4, u4, B4, D4, e3, hu, hB1, hB12, hB2, hO, hrel⟩ := J.f6 (hall 6 (by decide))
            obtain ⟨b18, p', q', r', s', e5, hbw, e4, hbk⟩ := J.f11 (hall 11 (by decide))
            have hrl := hrel b18 (hall 10 (by decide)) e5
            subst e5
            obtain rfl := J.f12 (hall 12 (by decide))
            have hb := J.bb
            have e6 := e3.symm.trans e4
            simp only [Value.tuple.injEq, Array.mk.injEq, List.cons.injEq, Value.agg.injEq, Value.slice.injEq, and_true, true_and] at e6
            obtain ⟨⟨rfl, rfl⟩, rfl, rfl⟩ := e6
            clear J hall hrel e3 e4
            have hul : E.1.rows.length = u4.length := by rw [← hu, List.length_map]
            rw [hul] at hO hbk
            have HU4 := Hid.intro hu
            clear hul hu
            rename World => w14
            have O4 := Hid.intro hO
            have H18 := Hid.intro hbk
            replace HK := Hid.intro (k_trans HK.out hb)
            replace HA := Hid.intro (box_kept HA.out hb)
            replace HC := Hid.intro (box_kept HC.out hb)
            replace H10 := Hid.intro (box_kept H10.out hb)
            replace H13 := Hid.intro (box_kept H13.out hb)
            replace O1 := Hid.intro (O1.out.kept hb)
            replace HM := Hid.intro (HM.out.kept hb)
            clear hb hO hbk KIw lC lA
            go_upto_region 28 with fail
            obtain ⟨m0, m1, m2, m3, m4⟩ := fiveO H18.out
            obtain ⟨n0, n1, n2, n3, n4⟩ := fiveO H10.out
            go_wp2_with fail
            refine (eqTblTable_any _ _ E.1 _ (O4.out.tbl HU4.out HTe.out) (O1.out.tbl HU1.out HTe.out)).mono ?_
            rintro e w15 ⟨rfl, hb15⟩
            replace HK := Hid.intro (k_trans HK.out hb15)
            replace HA := Hid.intro (box_kept HA.out hb15)
            replace HC := Hid.intro (box_kept HC.out hb15)
            replace H10 := Hid.intro (box_kept H10.out hb15)
            replace H13 := Hid.intro (box_kept H13.out hb15)
            replace H18 := Hid.intro (box_kept H18.out hb15)
            replace O1 := Hid.intro (O1.out.kept hb15)
            replace HM := Hid.intro (HM.out.kept hb15)
            replace O4 := Hid.intro (O4.out.kept hb15)
            clear m0 m1 m2 m3 m4 n0 n1 n2 n3 n4
            clear hb15
            obtain ⟨m0, m1, m2, m3, m4⟩ := fiveO H13.out
            have KH1 := Hid.intro (KH.out _ HM.out)
            go_wp2_with fail
            refine KH1.out.mono ?_
            rintro e w16 ⟨rfl, hb16⟩
            replace HK := Hid.intro (k_trans HK.out hb16)
            clear m0 m1 m2 m3 m4
            clear hb16 KH1
            go_wp2
            go_ret
            exact ⟨rfl, HK.out⟩
          case hsc =>
            intro L act W i o hJ hcl ho hLi haft K hK
            obtain ⟨v18, v19, v92, v93, v94, v95, v96, v97, v98, v99, v100, v101, ha, J⟩ := hJ
            subst ha
            have hi' : i < 13 := by
              have := (Array.getElem?_eq_some_iff.1 ho).1
              simpa using this
            rcases (by omega : i = 0 ∨ i = 1 ∨ i = 2 ∨ i = 3 ∨ i = 4 ∨ i = 5 ∨ i = 6 ∨ i = 7 ∨ i = 8 ∨ i = 9 ∨ i = 10 ∨ i = 11 ∨ i = 12) with rfl | rfl | rfl | rfl | rfl | rfl | rfl | rfl | rfl | rfl | rfl | rfl | rfl
            all_goals
              simp only [List.getElem?_toArray, List.getElem?_cons_zero, List.getElem?_cons_succ, Option.some.injEq] at ho
              subst ho
              clear hi'
            · skip
              have hN := (hcl 11 8 (by kernel_rfl) (hcl 8 7 (by kernel_rfl) (hcl 7 6 (by kernel_rfl) (hcl 6 1 (by kernel_rfl) (hcl 1 0 (by kernel_rfl) hLi)))))
              have hB := J.b hN
              obtain ⟨q0, q1', q2, q3, q4⟩ := fiveO ((hB.block _ lA).trans HA.out)
              go_simp
              exact hK _ _ ⟨_, _, _, _, _, _, _, _, _, _, _, _, rfl, ⟨(fun _ => rfl), (fun h _ => absurd (((hcl 1 0 (by kernel_rfl) hLi)).symm.trans (un h)) (by simp)), (fun h => J.f2 (un h)), (fun h => J.f3 (un h)), (fun h => J.f4 (un h)), (fun h => absurd (((hcl 5 1 (by kernel_rfl) (hcl 1 0 (by kernel_rfl) hLi))).symm.trans (un h)) (by simp)), (fun h => absurd (((hcl 6 1 (by kernel_rfl) (hcl 1 0 (by kernel_rfl) hLi))).symm.trans (un h)) (by simp)), (fun h => absurd (((hcl 7 6 (by kernel_rfl) (hcl 6 1 (by kernel_rfl) (hcl 1 0 (by kernel_rfl) hLi)))).symm.trans (un h)) (by simp)), (fun h => absurd (((hcl 8 7 (by kernel_rfl) (hcl 7 6 (by kernel_rfl) (hcl 6 1 (by kernel_rfl) (hcl 1 0 (by kernel_rfl) hLi))))).symm.trans (un h)) (by simp)), (fun h => absurd (((hcl 9 7 (by kernel_rfl) (hcl 7 6 (by kernel_rfl) (hcl 6 1 (by kernel_rfl) (hcl 1 0 (by kernel_rfl) hLi))))).symm.trans (un h)) (by simp)), (fun h h2 => (J.f10 (un h) (un h2))), (fun h => absurd (((hcl 11 8 (by kernel_rfl) (hcl 8 7 (by kernel_rfl) (hcl 7 6 (by kernel_rfl) (hcl 6 1 (by kernel_rfl) (hcl 1 0 (by kernel_rfl) hLi)))))).symm.trans (un h)) (by simp)), (fun h => absurd (((hcl 12 9 (by kernel_rfl) (hcl 9 7 (by kernel_rfl) (hcl 7 6 (by kernel_rfl) (hcl 6 1 (by kernel_rfl) (hcl 1 0 (by kernel_rfl) hLi)))))).symm.trans (un h)) (by simp)), (fun _ => hB), J.bb⟩⟩
            · skip
              have hN := (hcl 11 8 (by kernel_rfl) (hcl 8 7 (by kernel_rfl) (hcl 7 6 (by kernel_rfl) (hcl 6 1 (by kernel_rfl) hLi))))
              have hB := J.b hN
              obtain rfl := J.f0 (haft ⟨0, .data⟩ (by simp) rfl)
              go_simp
              go_wp2_with (go_at_call 23; refine (toTblTable_any _ t hn W (T0.out _ (k_trans HK.out hB))).mono ?_; rintro e W2 ⟨a', c', b', d', rfl, h1, h2, hb⟩)
              exact ⟨_, _, _, _, _, _, _, _, _, _, _, _, rfl, ⟨(fun h => J.f0 (un h)), (fun _ _ => ⟨a', c', b', d', _, rfl, h1, h2⟩), (fun h => J.f2 (un h)), (fun h => J.f3 (un h)), (fun h => J.f4 (un h)), (fun h => absurd (((hcl 5 1 (by kernel_rfl) hLi)).symm.trans (un h)) (by simp)), (fun h => absurd (((hcl 6 1 (by kernel_rfl) hLi)).symm.trans (un h)) (by simp)), (fun h => absurd (((hcl 7 6 (by kernel_rfl) (hcl 6 1 (by kernel_rfl) hLi))).symm.trans (un h)) (by simp)), (fun h => absurd (((hcl 8 7 (by kernel_rfl) (hcl 7 6 (by kernel_rfl) (hcl 6 1 (by kernel_rfl) hLi)))).symm.trans (un h)) (by simp)), (fun h => absurd (((hcl 9 7 (by kernel_rfl) (hcl 7 6 (by kernel_rfl) (hcl 6 1 (by kernel_rfl) hLi)))).symm.trans (un h)) (by simp)), (fun h h2 => ((J.f10 (un h) (un h2))).elim fun b h => ⟨b, h.1, h.2.1, box_kept h.2.2 hb⟩), (fun h => absurd (((hcl 11 8 (by kernel_rfl) (hcl 8 7 (by kernel_rfl) (hcl 7 6 (by kernel_rfl) (hcl 6 1 (by kernel_rfl) hLi))))).symm.trans (un h)) (by simp)), (fun h => absurd (((hcl 12 9 (by kernel_rfl) (hcl 9 7 (by kernel_rfl) (hcl 7 6 (by kernel_rfl) (hcl 6 1 (by kernel_rfl) hLi))))).symm.trans (un h)) (by simp)), (fun _ => k_trans hB hb), k_trans J.bb hb⟩⟩
            · skip
              have hN := (hcl 11 8 (by kernel_rfl) (hcl 8 7 (by kernel_rfl) (hcl 7 6 (by kernel_rfl) (hcl 6 2 (by kernel_rfl) hLi))))
              have hB := J.b hN
              go_simp
              exact hK _ _ ⟨_, _, _, _, _, _, _, _, _, _, _, _, rfl, ⟨(fun h => J.f0 (un h)), (fun h h2 => (J.f1 (un h) (un h2))), (fun _ => rfl), (fun h => J.f3 (un h)), (fun h => J.f4 (un h)), (fun h => J.f5 (un h)), (fun h => absurd (((hcl 6 2 (by kernel_rfl) hLi)).symm.trans (un h)) (by simp)), (fun h => absurd (((hcl 7 6 (by kernel_rfl) (hcl 6 2 (by kernel_rfl) hLi))).symm.trans (un h)) (by simp)), (fun h => absurd (((hcl 8 7 (by kernel_rfl) (hcl 7 6 (by kernel_rfl) (hcl 6 2 (by kernel_rfl) hLi)))).symm.trans (un h)) (by simp)), (fun h => absurd (((hcl 9 7 (by kernel_rfl) (hcl 7 6 (by kernel_rfl) (hcl 6 2 (by kernel_rfl) hLi)))).symm.trans (un h)) (by simp)), (fun h h2 => (J.f10 (un h) (un h2))), (fun h => absurd (((hcl 11 8 (by kernel_rfl) (hcl 8 7 (by kernel_rfl) (hcl 7 6 (by kernel_rfl) (hcl 6 2 (by kernel_rfl) hLi))))).symm.trans (un h)) (by simp)), (fun h => absurd (((hcl 12 9 (by kernel_rfl) (hcl 9 7 (by kernel_rfl) (hcl 7 6 (by kernel_rfl) (hcl 6 2 (by kernel_rfl) hLi))))).symm.trans (un h)) (by simp)), (fun _ => hB), J.bb⟩⟩
            · skip
              have hN := (hcl 11 8 (by kernel_rfl) (hcl 8 7 (by kernel_rfl) (hcl 7 6 (by kernel_rfl) (hcl 6 3 (by kernel_rfl) hLi))))
              have hB := J.b hN
              go_simp
              exact hK _ _ ⟨_, _, _, _, _, _, _, _, _, _, _, _, rfl, ⟨(fun h => J.f0 (un h)), (fun h h2 => (J.f1 (un h) (un h2))), (fun h => J.f2 (un h)), (fun _ => rfl), (fun h => J.f4 (un h)), (fun h => J.f5 (un h)), (fun h => absurd (((hcl 6 3 (by kernel_rfl) hLi)).symm.trans (un h)) (by simp)), (fun h => absurd (((hcl 7 6 (by kernel_rfl) (hcl 6 3 (by kernel_rfl) hLi))).symm.trans (un h)) (by simp)), (fun h => absurd (((hcl 8 7 (by kernel_rfl) (hcl 7 6 (by kernel_rfl) (hcl 6 3 (by kernel_rfl) hLi)))).symm.trans (un h)) (by simp)), (fun h => absurd (((hcl 9 7 (by kernel_rfl) (hcl 7 6 (by kernel_rfl) (hcl 6 3 (by kernel_rfl) hLi)))).symm.trans (un h)) (by simp)), (fun h h2 => (J.f10 (un h) (un h2))), (fun h => absurd (((hcl 11 8 (by kernel_rfl) (hcl 8 7 (by kernel_rfl) (hcl 7 6 (by kernel_rfl) (hcl 6 3 (by kernel_rfl) hLi))))).symm.trans (un h)) (by simp)), (fun h => absurd (((hcl 12 9 (by kernel_rfl) (hcl 9 7 (by kernel_rfl) (hcl 7 6 (by kernel_rfl) (hcl 6 3 (by kernel_rfl) hLi))))).symm.trans (un h)) (by simp)), (fun _ => hB), J.bb⟩⟩
            · skip
              have hN := (hcl 11 8 (by kernel_rfl) (hcl 8 7 (by kernel_rfl) (hcl 7 6 (by kernel_rfl) (hcl 6 5 (by kernel_rfl) (hcl 5 4 (by kernel_rfl) hLi)))))
              have hB := J.b hN
              obtain ⟨q0, q1', q2, q3, q4, q5, q6, q7, q8, q9, q10⟩ := elevenO ((hB.block _ lC).trans HC.out)
              go_simp
              exact hK _ _ ⟨_, _, _, _, _, _, _, _, _, _, _, _, rfl, ⟨(fun h => J.f0 (un h)), (fun h h2 => (J.f1 (un h) (un h2))), (fun h => J.f2 (un h)), (fun h => J.f3 (un h)), (fun _ => rfl), (fun h => absurd (((hcl 5 4 (by kernel_rfl) hLi)).symm.trans (un h)) (by simp)), (fun h => absurd (((hcl 6 5 (by kernel_rfl) (hcl 5 4 (by kernel_rfl) hLi))).symm.trans (un h)) (by simp)), (fun h => absurd (((hcl 7 6 (by kernel_rfl) (hcl 6 5 (by kernel_rfl) (hcl 5 4 (by kernel_rfl) hLi)))).symm.trans (un h)) (by simp)), (fun h => absurd (((hcl 8 7 (by kernel_rfl) (hcl 7 6 (by kernel_rfl) (hcl 6 5 (by kernel_rfl) (hcl 5 4 (by kernel_rfl) hLi))))).symm.trans (un h)) (by simp)), (fun h => absurd (((hcl 9 7 (by kernel_rfl) (hcl 7 6 (by kernel_rfl) (hcl 6 5 (by kernel_rfl) (hcl 5 4 (by kernel_rfl) hLi))))).symm.trans (un h)) (by simp)), (fun h h2 => (J.f10 (un h) (un h2))), (fun h => absurd (((hcl 11 8 (by kernel_rfl) (hcl 8 7 (by kernel_rfl) (hcl 7 6 (by kernel_rfl) (hcl 6 5 (by kernel_rfl) (hcl 5 4 (by kernel_rfl) hLi)))))).symm.trans (un h)) (by simp)), (fun h => absurd (((hcl 12 9 (by kernel_rfl) (hcl 9 7 (by kernel_rfl) (hcl 7 6 (by kernel_rfl) (hcl 6 5 (by kernel_rfl) (hcl 5 4 (by kernel_rfl) hLi)))))).symm.trans (un h)) (by simp)), (fun _ => hB), J.bb⟩⟩
            · skip
              have hN := (hcl 11 8 (by kernel_rfl) (hcl 8 7 (by kernel_rfl) (hcl 7 6 (by kernel_rfl) (hcl 6 5 (by kernel_rfl) hLi))))
              have hB := J.b hN
              obtain rfl := J.f4 (haft ⟨4, .data⟩ (by simp) rfl)
              go_simp
              go_wp2_with (go_at_call 24; refine (toTblCell_any _ _ _ _ _ _ _ _ _ _ _ W).mono ?_; rintro e W2 ⟨rfl, hb⟩)
              exact ⟨_, _, _, _, _, _, _, _, _, _, _, _, rfl, ⟨(fun h => J.f0 (un h)), (fun h h2 => ((J.f1 (un h) (un h2))).elim fun a' ⟨c', b', d', z', e, h1, h2⟩ => ⟨a', c', b', d', z', e, h1.kept hb, h2.kept hb⟩), (fun h => J.f2 (un h)), (fun h => J.f3 (un h)), (fun h => J.f4 (un h)), (fun _ => rfl), (fun h => absurd (((hcl 6 5 (by kernel_rfl) hLi)).symm.trans (un h)) (by simp)), (fun h => absurd (((hcl 7 6 (by kernel_rfl) (hcl 6 5 (by kernel_rfl) hLi))).symm.trans (un h)) (by simp)), (fun h => absurd (((hcl 8 7 (by kernel_rfl) (hcl 7 6 (by kernel_rfl) (hcl 6 5 (by kernel_rfl) hLi)))).symm.trans (un h)) (by simp)), (fun h => absurd (((hcl 9 7 (by kernel_rfl) (hcl 7 6 (by kernel_rfl) (hcl 6 5 (by kernel_rfl) hLi)))).symm.trans (un h)) (by simp)), (fun h h2 => ((J.f10 (un h) (un h2))).elim fun b h => ⟨b, h.1, h.2.1, box_kept h.2.2 hb⟩), (fun h => absurd (((hcl 11 8 (by kernel_rfl) (hcl 8 7 (by kernel_rfl) (hcl 7 6 (by kernel_rfl) (hcl 6 5 (by kernel_rfl) hLi))))).symm.trans (un h)) (by simp)), (fun h => absurd (((hcl 12 9 (by kernel_rfl) (hcl 9 7 (by kernel_rfl) (hcl 7 6 (by kernel_rfl) (hcl 6 5 (by kernel_rfl) hLi))))).symm.trans (un h)) (by simp)), (fun _ => k_trans hB hb), k_trans J.bb hb⟩⟩
            · skip
              have hN := (hcl 11 8 (by kernel_rfl) (hcl 8 7 (by kernel_rfl) (hcl 7 6 (by kernel_rfl) hLi)))
              have hB := J.b hN
              obtain ⟨a', c', b', d', z', rfl, h1, h2⟩ := J.f1 (haft ⟨1, .data⟩ (by simp) rfl) hLi
              obtain rfl := J.f2 (haft ⟨2, .data⟩ (by simp) rfl)
              obtain rfl := J.f3 (haft ⟨3, .data⟩ (by simp) rfl)
              obtain rfl := J.f5 (haft ⟨5, .data⟩ (by simp) rfl)
              go_simp
              go_wp2_with (go_at_call 25; refine (KIw.out W hB _ _ _ _ _ h1 h2).mono ?_; rintro e W2 ⟨p3, q3, r3, s3, u3, rfl, hu, hO, hb⟩)
              exact ⟨_, _, _, _, _, _, _, _, _, _, _, _, rfl, ⟨(fun h => J.f0 (un h)), (fun _ h => absurd (h.symm.trans upd_self) (by simp)), (fun h => J.f2 (un h)), (fun h => J.f3 (un h)), (fun h => J.f4 (un h)), (fun h => J.f5 (un h)), (fun _ => ⟨p3, q3, r3, s3, u3, _, _, rfl, hu, hB.size, hb.size, Nat.le_refl _, hO, fun b h9 e9 => .inl (by obtain ⟨b2, e2, _, h2'⟩ := J.f10 (un h9) (hcl 11 8 (by kernel_rfl) (hcl 8 7 (by kernel_rfl) (hcl 7 6 (by kernel_rfl) hLi))); rw [e2] at e9; simp only [Value.pointer.injEq, Option.some.injEq, Addr.mk.injEq, and_true] at e9; have h5 := (Array.getElem?_eq_some_iff.1 h2').1; omega)⟩), (fun h => absurd (((hcl 7 6 (by kernel_rfl) hLi)).symm.trans (un h)) (by simp)), (fun h => absurd (((hcl 8 7 (by kernel_rfl) (hcl 7 6 (by kernel_rfl) hLi))).symm.trans (un h)) (by simp)), (fun h => absurd (((hcl 9 7 (by kernel_rfl) (hcl 7 6 (by kernel_rfl) hLi))).symm.trans (un h)) (by simp)), (fun h h2 => ((J.f10 (un h) (un h2))).elim fun b h => ⟨b, h.1, h.2.1, box_kept h.2.2 hb⟩), (fun h => absurd (((hcl 11 8 (by kernel_rfl) (hcl 8 7 (by kernel_rfl) (hcl 7 6 (by kernel_rfl) hLi)))).symm.trans (un h)) (by simp)), (fun h => absurd (((hcl 12 9 (by kernel_rfl) (hcl 9 7 (by kernel_rfl) (hcl 7 6 (by kernel_rfl) hLi)))).symm.trans (un h)) (by simp)), (fun _ => k_trans hB hb), k_trans J.bb hb⟩⟩
            · skip
              have hN := (hcl 11 8 (by kernel_rfl) (hcl 8 7 (by kernel_rfl) hLi))
              have hB := J.b hN
              go_simp
              exact hK _ _ ⟨_, _, _, _, _, _, _, _, _, _, _, _, rfl, ⟨(fun h => J.f0 (un h)), (fun h h2 => (J.f1 (un h) (un h2))), (fun h => J.f2 (un h)), (fun h => J.f3 (un h)), (fun h => J.f4 (un h)), (fun h => J.f5 (un h)), (fun h => (J.f6 (un h))), (fun _ => rfl), (fun h => absurd (((hcl 8 7 (by kernel_rfl) hLi)).symm.trans (un h)) (by simp)), (fun h => absurd (((hcl 9 7 (by kernel_rfl) hLi)).symm.trans (un h)) (by simp)), (fun h h2 => (J.f10 (un h) (un h2))), (fun h => absurd (((hcl 11 8 (by kernel_rfl) (hcl 8 7 (by kernel_rfl) hLi))).symm.trans (un h)) (by simp)), (fun h => absurd (((hcl 12 9 (by kernel_rfl) (hcl 9 7 (by kernel_rfl) hLi))).symm.trans (un h)) (by simp)), (fun _ => hB), J.bb⟩⟩
            · skip
              have hN := (hcl 11 8 (by kernel_rfl) hLi)
              have hB := J.b hN
              have h12 : L 6 = true := eq_true_of_ne_false (fun h3 => by have h4 := hcl 7 6 (by kernel_rfl) h3; rw [(haft ⟨7, .data⟩ (by simp) rfl)] at h4; cases h4)
              obtain ⟨p3, q3, r3, s3, _, _, _, e3, _⟩ := J.f6 h12
              obtain rfl := J.f7 (haft ⟨7, .data⟩ (by simp) rfl)
              subst e3
              go_simp
              exact hK _ _ ⟨_, _, _, _, _, _, _, _, _, _, _, _, rfl, ⟨(fun h => J.f0 (un h)), (fun h h2 => (J.f1 (un h) (un h2))), (fun h => J.f2 (un h)), (fun h => J.f3 (un h)), (fun h => J.f4 (un h)), (fun h => J.f5 (un h)), (fun h => (J.f6 (un h))), (fun h => J.f7 (un h)), (fun _ => ⟨p3, q3, r3, s3, rfl, rfl⟩), (fun h => J.f9 (un h)), (fun h h2 => (J.f10 (un h) (un h2))), (fun h => absurd (((hcl 11 8 (by kernel_rfl) hLi)).symm.trans (un h)) (by simp)), (fun h => J.f12 (un h)), (fun _ => hB), J.bb⟩⟩
            · skip
              have h12 : L 6 = true := eq_true_of_ne_false (fun h3 => by have h4 := hcl 7 6 (by kernel_rfl) h3; rw [(haft ⟨7, .data⟩ (by simp) rfl)] at h4; cases h4)
              obtain ⟨p3, q3, r3, s3, _, _, _, e3, _⟩ := J.f6 h12
              obtain rfl := J.f7 (haft ⟨7, .data⟩ (by simp) rfl)
              subst e3
              go_simp
              exact hK _ _ ⟨_, _, _, _, _, _, _, _, _, _, _, _, rfl, ⟨(fun h => J.f0 (un h)), (fun h h2 => (J.f1 (un h) (un h2))), (fun h => J.f2 (un h)), (fun h => J.f3 (un h)), (fun h => J.f4 (un h)), (fun h => J.f5 (un h)), (fun h => (J.f6 (un h))), (fun h => J.f7 (un h)), (fun h => J.f8 (un h)), (fun _ => rfl), (fun h h2 => (J.f10 (un h) (un h2))), (fun h => J.f11 (un h)), (fun h => absurd (((hcl 12 9 (by kernel_rfl) hLi)).symm.trans (un h)) (by simp)), (fun h => J.b (un h)), J.bb⟩⟩
            · skip
              have hN := (hcl 11 10 (by kernel_rfl) hLi)
              have hB := J.b hN
              go_simp
              exact hK _ _ ⟨_, _, _, _, _, _, _, _, _, _, _, _, rfl, ⟨(fun h => J.f0 (un h)), (fun h h2 => ((J.f1 (un h) (un h2))).elim fun a' ⟨c', b', d', z', e, h1, h2⟩ => ⟨a', c', b', d', z', e, h1.kept (k_alloc (Below.refl _ _) _), h2.kept (k_alloc (Below.refl _ _) _)⟩), (fun h => J.f2 (un h)), (fun h => J.f3 (un h)), (fun h => J.f4 (un h)), (fun h => J.f5 (un h)), (fun h => ((J.f6 (un h))).elim fun p ⟨q, r', s, u, B, D, e, hu, h1, h12, h2, h3, h4⟩ => ⟨p, q, r', s, u, B, D, e, hu, h1, h12, Nat.le_trans h2 (by simp), h3.kept (k_alloc (Below.refl _ _) _), fun b _ eb => .inr (by simp only [Value.pointer.injEq, Option.some.injEq, Addr.mk.injEq, and_true] at eb; omega)⟩), (fun h => J.f7 (un h)), (fun h => J.f8 (un h)), (fun h => J.f9 (un h)), (fun _ _ => ⟨_, rfl, hB.size, newestB _ _⟩), (fun h => absurd (((hcl 11 10 (by kernel_rfl) hLi)).symm.trans (un h)) (by simp)), (fun h => J.f12 (un h)), (fun _ => k_alloc hB _), k_alloc J.bb _⟩⟩
            · skip
              have hN := hLi
              have hB := J.b hN
              obtain ⟨p3, q3, r3, s3, e3, rfl⟩ := J.f8 (haft ⟨8, .data⟩ (by simp) rfl)
              have hC : L 6 = true := eq_true_of_ne_false (fun h3 => by have h4 := hcl 8 7 (by kernel_rfl) (hcl 7 6 (by kernel_rfl) h3); rw [(haft ⟨8, .data⟩ (by simp) rfl)] at h4; cases h4)
              subst e3
              have hAl : L 10 = true := (haft ⟨10, .data⟩ (by simp) rfl)
              obtain ⟨b, rfl, hbw, hbk⟩ := J.f10 hAl hLi
              have hB := J.b hLi
              obtain ⟨q0, q1', q2, q3', q4⟩ := fiveO hbk
              have fz : ∀ o, W.frozen? ⟨b, o, none⟩ = false := fun o => freeB hbk
              go_simp
              exact hK _ _ ⟨_, _, _, _, _, _, _, _, _, _, _, _, rfl, ⟨(fun h => J.f0 (un h)), (fun h h2 => absurd ((un h2).symm.trans hC) (by simp)), (fun h => J.f2 (un h)), (fun h => J.f3 (un h)), (fun h => J.f4 (un h)), (fun h => J.f5 (un h)), (fun h => ((J.f6 (un h))).elim fun p ⟨q, r', s, u, B, D, e, hu, h1, h12, h2, h3, h4⟩ => ⟨p, q, r', s, u, B, D, e, hu, h1, h12, by simpa using h2, own_d5 h3 (h4 b hAl rfl) _ _ _ _ _, h4⟩), (fun h => J.f7 (un h)), (fun h => J.f8 (un h)), (fun h => J.f9 (un h)), (fun _ h => absurd (h.symm.trans upd_self) (by simp)), (fun _ => ⟨b, p3, q3, r3, s3, rfl, hbw, rfl, set5_is hbk _ _ _ _ _⟩), (fun h => J.f12 (un h)), (fun h => absurd (h.symm.trans upd_self) (by simp)), k_set (k_set (k_set (k_set (k_set J.bb hbw _) hbw _) hbw _) hbw _) hbw _⟩⟩
            · skip
              obtain rfl := J.f9 (haft ⟨9, .data⟩ (by simp) rfl)
              go_simp
              exact hK _ _ ⟨_, _, _, _, _, _, _, _, _, _, _, _, rfl, ⟨(fun h => J.f0 (un h)), (fun h h2 => (J.f1 (un h) (un h2))), (fun h => J.f2 (un h)), (fun h => J.f3 (un h)), (fun h => J.f4 (un h)), (fun h => J.f5 (un h)), (fun h => (J.f6 (un h))), (fun h => J.f7 (un h)), (fun h => J.f8 (un h)), (fun h => J.f9 (un h)), (fun h h2 => (J.f10 (un h) (un h2))), (fun h => J.f11 (un h)), (fun _ => rfl), (fun h => J.b (un h)), J.bb⟩⟩
      case hsb =>
        intro L act W i o hJ hcl ho hLi haft K hK
        obtain ⟨v13, v14, v42, v43, v44, v45, v46, v47, v48, v49, v50, ha, J⟩ := hJ
        subst ha
        have hi' : i < 12 := by
          have := (Array.getElem?_eq_some_iff.1 ho).1
          simpa using this
        rcases (by omega : i = 0 ∨ i = 1 ∨ i = 2 ∨ i = 3 ∨ i = 4 ∨ i = 5 ∨ i = 6 ∨ i = 7 ∨ i = 8 ∨ i = 9 ∨ i = 10 ∨ i = 11) with rfl | rfl | rfl | rfl | rfl | rfl | rfl | rfl | rfl | rfl | rfl | rfl
        all_goals
          simp only [List.getElem?_toArray, List.getElem?_cons_zero, List.getElem?_cons_succ, Option.some.injEq] at ho
          subst ho
          clear hi'
        · skip
          have hN := (hcl 10 7 (by kernel_rfl) (hcl 7 6 (by kernel_rfl) (hcl 6 5 (by kernel_rfl) (hcl 5 0 (by kernel_rfl) hLi))))
          have hB := J.b hN
          obtain ⟨q0, q1', q2, q3, q4⟩ := fiveO ((hB.block _ l12).trans H12.out)
          go_simp
          exact hK _ _ ⟨_, _, _, _, _, _, _, _, _, _, _, rfl, ⟨(fun _ => rfl), (fun h => J.f1 (un h)), (fun h => J.f2 (un h)), (fun h => J.f3 (un h)), (fun h => J.f4 (un h)), (fun h => absurd (((hcl 5 0 (by kernel_rfl) hLi)).symm.trans (un h)) (by simp)), (fun h => absurd (((hcl 6 5 (by kernel_rfl) (hcl 5 0 (by kernel_rfl) hLi))).symm.trans (un h)) (by simp)), (fun h => absurd (((hcl 7 6 (by kernel_rfl) (hcl 6 5 (by kernel_rfl) (hcl 5 0 (by kernel_rfl) hLi)))).symm.trans (un h)) (by simp)), (fun h => absurd (((hcl 8 6 (by kernel_rfl) (hcl 6 5 (by kernel_rfl) (hcl 5 0 (by kernel_rfl) hLi)))).symm.trans (un h)) (by simp)), (fun h h2 => (J.f9 (un h) (un h2))), (fun h => absurd (((hcl 10 7 (by kernel_rfl) (hcl 7 6 (by kernel_rfl) (hcl 6 5 (by kernel_rfl) (hcl 5 0 (by kernel_rfl) hLi))))).symm.trans (un h)) (by simp)), (fun h => absurd (((hcl 11 8 (by kernel_rfl) (hcl 8 6 (by kernel_rfl) (hcl 6 5 (by kernel_rfl) (hcl 5 0 (by kernel_rfl) hLi))))).symm.trans (un h)) (by simp)), (fun _ => hB), J.bb⟩⟩
        · skip
          have hN := (hcl 10 7 (by kernel_rfl) (hcl 7 6 (by kernel_rfl) (hcl 6 5 (by kernel_rfl) (hcl 5 1 (by kernel_rfl) hLi))))
          have hB := J.b hN
          go_simp
          exact hK _ _ ⟨_, _, _, _, _, _, _, _, _, _, _, rfl, ⟨(fun h => J.f0 (un h)), (fun _ => rfl), (fun h => J.f2 (un h)), (fun h => J.f3 (un h)), (fun h => J.f4 (un h)), (fun h => absurd (((hcl 5 1 (by kernel_rfl) hLi)).symm.trans (un h)) (by simp)), (fun h => absurd (((hcl 6 5 (by kernel_rfl) (hcl 5 1 (by kernel_rfl) hLi))).symm.trans (un h)) (by simp)), (fun h => absurd (((hcl 7 6 (by kernel_rfl) (hcl 6 5 (by kernel_rfl) (hcl 5 1 (by kernel_rfl) hLi)))).symm.trans (un h)) (by simp)), (fun h => absurd (((hcl 8 6 (by kernel_rfl) (hcl 6 5 (by kernel_rfl) (hcl 5 1 (by kernel_rfl) hLi)))).symm.trans (un h)) (by simp)), (fun h h2 => (J.f9 (un h) (un h2))), (fun h => absurd (((hcl 10 7 (by kernel_rfl) (hcl 7 6 (by kernel_rfl) (hcl 6 5 (by kernel_rfl) (hcl 5 1 (by kernel_rfl) hLi))))).symm.trans (un h)) (by simp)), (fun h => absurd (((hcl 11 8 (by kernel_rfl) (hcl 8 6 (by kernel_rfl) (hcl 6 5 (by kernel_rfl) (hcl 5 1 (by kernel_rfl) hLi))))).symm.trans (un h)) (by simp)), (fun _ => hB), J.bb⟩⟩
        · skip
          have hN := (hcl 10 7 (by kernel_rfl) (hcl 7 6 (by kernel_rfl) (hcl 6 5 (by kernel_rfl) (hcl 5 2 (by kernel_rfl) hLi))))
          have hB := J.b hN
          go_simp
          exact hK _ _ ⟨_, _, _, _, _, _, _, _, _, _, _, rfl, ⟨(fun h => J.f0 (un h)), (fun h => J.f1 (un h)), (fun _ => rfl), (fun h => J.f3 (un h)), (fun h => J.f4 (un h)), (fun h => absurd (((hcl 5 2 (by kernel_rfl) hLi)).symm.trans (un h)) (by simp)), (fun h => absurd (((hcl 6 5 (by kernel_rfl) (hcl 5 2 (by kernel_rfl) hLi))).symm.trans (un h)) (by simp)), (fun h => absurd (((hcl 7 6 (by kernel_rfl) (hcl 6 5 (by kernel_rfl) (hcl 5 2 (by kernel_rfl) hLi)))).symm.trans (un h)) (by simp)), (fun h => absurd (((hcl 8 6 (by kernel_rfl) (hcl 6 5 (by kernel_rfl) (hcl 5 2 (by kernel_rfl) hLi)))).symm.trans (un h)) (by simp)), (fun h h2 => (J.f9 (un h) (un h2))), (fun h => absurd (((hcl 10 7 (by kernel_rfl) (hcl 7 6 (by kernel_rfl) (hcl 6 5 (by kernel_rfl) (hcl 5 2 (by kernel_rfl) hLi))))).symm.trans (un h)) (by simp)), (fun h => absurd (((hcl 11 8 (by kernel_rfl) (hcl 8 6 (by kernel_rfl) (hcl 6 5 (by kernel_rfl) (hcl 5 2 (by kernel_rfl) hLi))))).symm.trans (un h)) (by simp)), (fun _ => hB), J.bb⟩⟩
        · skip
          have hN := (hcl 10 7 (by kernel_rfl) (hcl 7 6 (by kernel_rfl) (hcl 6 5 (by kernel_rfl) (hcl 5 4 (by kernel_rfl) (hcl 4 3 (by kernel_rfl) hLi)))))
          have hB := J.b hN
          obtain ⟨q0, q1', q2, q3, q4, q5, q6, q7, q8, q9, q10⟩ := elevenO ((hB.block _ lC).trans HC.out)
          go_simp
          exact hK _ _ ⟨_, _, _, _, _, _, _, _, _, _, _, rfl, ⟨(fun h => J.f0 (un h)), (fun h => J.f1 (un h)), (fun h => J.f2 (un h)), (fun _ => rfl), (fun h => absurd (((hcl 4 3 (by kernel_rfl) hLi)).symm.trans (un h)) (by simp)), (fun h => absurd (((hcl 5 4 (by kernel_rfl) (hcl 4 3 (by kernel_rfl) hLi))).symm.trans (un h)) (by simp)), (fun h => absurd (((hcl 6 5 (by kernel_rfl) (hcl 5 4 (by kernel_rfl) (hcl 4 3 (by kernel_rfl) hLi)))).symm.trans (un h)) (by simp)), (fun h => absurd (((hcl 7 6 (by kernel_rfl) (hcl 6 5 (by kernel_rfl) (hcl 5 4 (by kernel_rfl) (hcl 4 3 (by kernel_rfl) hLi))))).symm.trans (un h)) (by simp)), (fun h => absurd (((hcl 8 6 (by kernel_rfl) (hcl 6 5 (by kernel_rfl) (hcl 5 4 (by kernel_rfl) (hcl 4 3 (by kernel_rfl) hLi))))).symm.trans (un h)) (by simp)), (fun h h2 => (J.f9 (un h) (un h2))), (fun h => absurd (((hcl 10 7 (by kernel_rfl) (hcl 7 6 (by kernel_rfl) (hcl 6 5 (by kernel_rfl) (hcl 5 4 (by kernel_rfl) (hcl 4 3 (by kernel_rfl) hLi)))))).symm.trans (un h)) (by simp)), (fun h => absurd (((hcl 11 8 (by kernel_rfl) (hcl 8 6 (by kernel_rfl) (hcl 6 5 (by kernel_rfl) (hcl 5 4 (by kernel_rfl) (hcl 4 3 (by kernel_rfl) hLi)))))).symm.trans (un h)) (by simp)), (fun _ => hB), J.bb⟩⟩
        · skip
          have hN := (hcl 10 7 (by kernel_rfl) (hcl 7 6 (by kernel_rfl) (hcl 6 5 (by kernel_rfl) (hcl 5 4 (by kernel_rfl) hLi))))
          have hB := J.b hN
          obtain rfl := J.f3 (haft ⟨3, .data⟩ (by simp) rfl)
          go_simp
          go_wp2_with (go_at_call 24; refine (toTblCell_any _ _ _ _ _ _ _ _ _ _ _ W).mono ?_; rintro e W2 ⟨rfl, hb⟩)
          exact ⟨_, _, _, _, _, _, _, _, _, _, _, rfl, ⟨(fun h => J.f0 (un h)), (fun h => J.f1 (un h)), (fun h => J.f2 (un h)), (fun h => J.f3 (un h)), (fun _ => rfl), (fun h => absurd (((hcl 5 4 (by kernel_rfl) hLi)).symm.trans (un h)) (by simp)), (fun h => absurd (((hcl 6 5 (by kernel_rfl) (hcl 5 4 (by kernel_rfl) hLi))).symm.trans (un h)) (by simp)), (fun h => absurd (((hcl 7 6 (by kernel_rfl) (hcl 6 5 (by kernel_rfl) (hcl 5 4 (by kernel_rfl) hLi)))).symm.trans (un h)) (by simp)), (fun h => absurd (((hcl 8 6 (by kernel_rfl) (hcl 6 5 (by kernel_rfl) (hcl 5 4 (by kernel_rfl) hLi)))).symm.trans (un h)) (by simp)), (fun h h2 => ((J.f9 (un h) (un h2))).elim fun b h => ⟨b, h.1, h.2.1, box_kept h.2.2 hb⟩), (fun h => absurd (((hcl 10 7 (by kernel_rfl) (hcl 7 6 (by kernel_rfl) (hcl 6 5 (by kernel_rfl) (hcl 5 4 (by kernel_rfl) hLi))))).symm.trans (un h)) (by simp)), (fun h => absurd (((hcl 11 8 (by kernel_rfl) (hcl 8 6 (by kernel_rfl) (hcl 6 5 (by kernel_rfl) (hcl 5 4 (by kernel_rfl) hLi))))).symm.trans (un h)) (by simp)), (fun _ => k_trans hB hb), k_trans J.bb hb⟩⟩
        · skip
          have hN := (hcl 10 7 (by kernel_rfl) (hcl 7 6 (by kernel_rfl) (hcl 6 5 (by kernel_rfl) hLi)))
          have hB := J.b hN
          obtain rfl := J.f0 (haft ⟨0, .data⟩ (by simp) rfl)
          obtain rfl := J.f1 (haft ⟨1, .data⟩ (by simp) rfl)
          obtain rfl := J.f2 (haft ⟨2, .data⟩ (by simp) rfl)
          obtain rfl := J.f4 (haft ⟨4, .data⟩ (by simp) rfl)
          go_simp
          go_wp2_with (go_at_call 25; refine (KIw.out W hB).mono ?_; rintro e W2 ⟨p3, q3, r3, s3, u3, rfl, hu, hO, hb⟩)
          exact ⟨_, _, _, _, _, _, _, _, _, _, _, rfl, ⟨(fun h => J.f0 (un h)), (fun h => J.f1 (un h)), (fun h => J.f2 (un h)), (fun h => J.f3 (un h)), (fun h => J.f4 (un h)), (fun _ => ⟨p3, q3, r3, s3, u3, _, _, rfl, hu, hB.size, hb.size, Nat.le_refl _, hO, fun b h9 e9 => .inl (by obtain ⟨b2, e2, _, h2'⟩ := J.f9 (un h9) (hcl 10 7 (by kernel_rfl) (hcl 7 6 (by kernel_rfl) (hcl 6 5 (by kernel_rfl) hLi))); rw [e2] at e9; simp only [Value.pointer.injEq, Option.some.injEq, Addr.mk.injEq, and_true] at e9; have h5 := (Array.getElem?_eq_some_iff.1 h2').1; omega)⟩), (fun h => absurd (((hcl 6 5 (by kernel_rfl) hLi)).symm.trans (un h)) (by simp)), (fun h => absurd (((hcl 7 6 (by kernel_rfl) (hcl 6 5 (by kernel_rfl) hLi))).symm.trans (un h)) (by simp)), (fun h => absurd (((hcl 8 6 (by kernel_rfl) (hcl 6 5 (by kernel_rfl) hLi))).symm.trans (un h)) (by simp)), (fun h h2 => ((J.f9 (un h) (un h2))).elim fun b h => ⟨b, h.1, h.2.1, box_kept h.2.2 hb⟩), (fun h => absurd (((hcl 10 7 (by kernel_rfl) (hcl 7 6 (by kernel_rfl) (hcl 6 5 (by kernel_rfl) hLi)))).symm.trans (un h)) (by simp)), (fun h => absurd (((hcl 11 8 (by kernel_rfl) (hcl 8 6 (by kernel_rfl) (hcl 6 5 (by kernel_rfl) hLi)))).symm.trans (un h)) (by simp)), (fun _ => k_trans hB hb), k_trans J.bb hb⟩⟩
        · skip
          have hN := (hcl 10 7 (by kernel_rfl) (hcl 7 6 (by kernel_rfl) hLi))
          have hB := J.b hN
          go_simp
          exact hK _ _ ⟨_, _, _, _, _, _, _, _, _, _, _, rfl, ⟨(fun h => J.f0 (un h)), (fun h => J.f1 (un h)), (fun h => J.f2 (un h)), (fun h => J.f3 (un h)), (fun h => J.f4 (un h)), (fun h => (J.f5 (un h))), (fun _ => rfl), (fun h => absurd (((hcl 7 6 (by kernel_rfl) hLi)).symm.trans (un h)) (by simp)), (fun h => absurd (((hcl 8 6 (by kernel_rfl) hLi)).symm.trans (un h)) (by simp)), (fun h h2 => (J.f9 (un h) (un h2))), (fun h => absurd (((hcl 10 7 (by kernel_rfl) (hcl 7 6 (by kernel_rfl) hLi))).symm.trans (un h)) (by simp)), (fun h => absurd (((hcl 11 8 (by kernel_rfl) (hcl 8 6 (by kernel_rfl) hLi))).symm.trans (un h)) (by simp)), (fun _ => hB), J.bb⟩⟩
        · skip
          have hN := (hcl 10 7 (by kernel_rfl) hLi)
          have hB := J.b hN
          have h12 : L 5 = true := eq_true_of_ne_false (fun h3 => by have h4 := hcl 6 5 (by kernel_rfl) h3; rw [(haft ⟨6, .data⟩ (by simp) rfl)] at h4; cases h4)
          obtain ⟨p3, q3, r3, s3, _, _, _, e3, _⟩ := J.f5 h12
          obtain rfl := J.f6 (haft ⟨6, .data⟩ (by simp) rfl)
          subst e3
          go_simp
          exact hK _ _ ⟨_, _, _, _, _, _, _, _, _, _, _, rfl, ⟨(fun h => J.f0 (un h)), (fun h => J.f1 (un h)), (fun h => J.f2 (un h)), (fun h => J.f3 (un h)), (fun h => J.f4 (un h)), (fun h => (J.f5 (un h))), (fun h => J.f6 (un h)), (fun _ => ⟨p3, q3, r3, s3, rfl, rfl⟩), (fun h => J.f8 (un h)), (fun h h2 => (J.f9 (un h) (un h2))), (fun h => absurd (((hcl 10 7 (by kernel_rfl) hLi)).symm.trans (un h)) (by simp)), (fun h => J.f11 (un h)), (fun _ => hB), J.bb⟩⟩
        · skip
          have h12 : L 5 = true := eq_true_of_ne_false (fun h3 => by have h4 := hcl 6 5 (by kernel_rfl) h3; rw [(haft ⟨6, .data⟩ (by simp) rfl)] at h4; cases h4)
          obtain ⟨p3, q3, r3, s3, _, _, _, e3, _⟩ := J.f5 h12
          obtain rfl := J.f6 (haft ⟨6, .data⟩ (by simp) rfl)
          subst e3
          go_simp
          exact hK _ _ ⟨_, _, _, _, _, _, _, _, _, _, _, rfl, ⟨(fun h => J.f0 (un h)), (fun h => J.f1 (un h)), (fun h => J.f2 (un h)), (fun h => J.f3 (un h)), (fun h => J.f4 (un h)), (fun h => (J.f5 (un h))), (fun h => J.f6 (un h)), (fun h => J.f7 (un h)), (fun _ => rfl), (fun h h2 => (J.f9 (un h) (un h2))), (fun h => J.f10 (un h)), (fun h => absurd (((hcl 11 8 (by kernel_rfl) hLi)).symm.trans (un h)) (by simp)), (fun h => J.b (un h)), J.bb⟩⟩
        · skip
          have hN := (hcl 10 9 (by kernel_rfl) hLi)
          have hB := J.b hN
          go_simp
          exact hK _ _ ⟨_, _, _, _, _, _, _, _, _, _, _, rfl, ⟨(fun h => J.f0 (un h)), (fun h => J.f1 (un h)), (fun h => J.f2 (un h)), (fun h => J.f3 (un h)), (fun h => J.f4 (un h)), (fun h => ((J.f5 (un h))).elim fun p ⟨q, r', s, u, B, D, e, hu, h1, h12, h2, h3, h4⟩ => ⟨p, q, r', s, u, B, D, e, hu, h1, h12, Nat.le_trans h2 (by simp), h3.kept (k_alloc (Below.refl _ _) _), fun b _ eb => .inr (by simp only [Value.pointer.injEq, Option.some.injEq, Addr.mk.injEq, and_true] at eb; omega)⟩), (fun h => J.f6 (un h)), (fun h => J.f7 (un h)), (fun h => J.f8 (un h)), (fun _ _ => ⟨_, rfl, hB.size, newestB _ _⟩), (fun h => absurd (((hcl 10 9 (by kernel_rfl) hLi)).symm.trans (un h)) (by simp)), (fun h => J.f11 (un h)), (fun _ => k_alloc hB _), k_alloc J.bb _⟩⟩
        · skip
          have hN := hLi
          have hB := J.b hN
          obtain ⟨p3, q3, r3, s3, e3, rfl⟩ := J.f7 (haft ⟨7, .data⟩ (by simp) rfl)
          have hC : L 5 = true := eq_true_of_ne_false (fun h3 => by have h4 := hcl 7 6 (by kernel_rfl) (hcl 6 5 (by kernel_rfl) h3); rw [(haft ⟨7, .data⟩ (by simp) rfl)] at h4; cases h4)
          subst e3
          have hAl : L 9 = true := (haft ⟨9, .data⟩ (by simp) rfl)
          obtain ⟨b, rfl, hbw, hbk⟩ := J.f9 hAl hLi
          have hB := J.b hLi
          obtain ⟨q0, q1', q2, q3', q4⟩ := fiveO hbk
          have fz : ∀ o, W.frozen? ⟨b, o, none⟩ = false := fun o => freeB hbk
          go_simp
          exact hK _ _ ⟨_, _, _, _, _, _, _, _, _, _, _, rfl, ⟨(fun h => J.f0 (un h)), (fun h => J.f1 (un h)), (fun h => J.f2 (un h)), (fun h => J.f3 (un h)), (fun h => J.f4 (un h)), (fun h => ((J.f5 (un h))).elim fun p ⟨q, r', s, u, B, D, e, hu, h1, h12, h2, h3, h4⟩ => ⟨p, q, r', s, u, B, D, e, hu, h1, h12, by simpa using h2, own_d5 h3 (h4 b hAl rfl) _ _ _ _ _, h4⟩), (fun h => J.f6 (un h)), (fun h => J.f7 (un h)), (fun h => J.f8 (un h)), (fun _ h => absurd (h.symm.trans upd_self) (by simp)), (fun _ => ⟨b, p3, q3, r3, s3, rfl, hbw, rfl, set5_is hbk _ _ _ _ _⟩), (fun h => J.f11 (un h)), (fun h => absurd (h.symm.trans upd_self) (by simp)), k_set (k_set (k_set (k_set (k_set J.bb hbw _) hbw _) hbw _) hbw _) hbw _⟩⟩
        · skip
          obtain rfl := J.f8 (haft ⟨8, .data⟩ (by simp) rfl)
          go_simp
          exact hK _ _ ⟨_, _, _, _, _, _, _, _, _, _, _, rfl, ⟨(fun h => J.f0 (un h)), (fun h => J.f1 (un h)), (fun h => J.f2 (un h)), (fun h => J.f3 (un h)), (fun h => J.f4 (un h)), (fun h => (J.f5 (un h))), (fun h => J.f6 (un h)), (fun h => J.f7 (un h)), (fun h => J.f8 (un h)), (fun h h2 => (J.f9 (un h) (un h2))), (fun h => J.f10 (un h)), (fun _ => rfl), (fun h => J.b (un h)), J.bb⟩⟩
    case hs =>
      intro L act W i o hJ hcl ho hLi haft K hK
      obtain ⟨v10, v11, v30, v31, v32, v33, v34, v35, v36, v37, v38, v39, ha, J⟩ := hJ
      subst ha
      have hi' : i < 13 := by
        have := (Array.getElem?_eq_some_iff.1 ho).1
        simpa using this
      rcases (by omega : i = 0 ∨ i = 1 ∨ i = 2 ∨ i = 3 ∨ i = 4 ∨ i = 5 ∨ i = 6 ∨ i = 7 ∨ i = 8 ∨ i = 9 ∨ i = 10 ∨ i = 11 ∨ i = 12) with rfl | rfl | rfl | rfl | rfl | rfl | rfl | rfl | rfl | rfl | rfl | rfl | rfl
      all_goals
        simp only [List.getElem?_toArray, List.getElem?_cons_zero, List.getElem?_cons_succ, Option.some.injEq] at ho
        subst ho
        clear hi'
      · skip
        have hN := (hcl 11 8 (by kernel_rfl) (hcl 8 7 (by kernel_rfl) (hcl 7 6 (by kernel_rfl) (hcl 6 1 (by kernel_rfl) (hcl 1 0 (by kernel_rfl) hLi)))))
        have hB := J.b hN
        obtain ⟨q0, q1', q2, q3, q4⟩ := fiveO ((hB.block _ lA).trans HA.out)
        go_simp
        exact hK _ _ ⟨_, _, _, _, _, _, _, _, _, _, _, _, rfl, ⟨(fun _ => rfl), (fun h _ => absurd (((hcl 1 0 (by kernel_rfl) hLi)).symm.trans (un h)) (by simp)), (fun h => J.f2 (un h)), (fun h => J.f3 (un h)), (fun h => J.f4 (un h)), (fun h => absurd (((hcl 5 1 (by kernel_rfl) (hcl 1 0 (by kernel_rfl) hLi))).symm.trans (un h)) (by simp)), (fun h => absurd (((hcl 6 1 (by kernel_rfl) (hcl 1 0 (by kernel_rfl) hLi))).symm.trans (un h)) (by simp)), (fun h => absurd (((hcl 7 6 (by kernel_rfl) (hcl 6 1 (by kernel_rfl) (hcl 1 0 (by kernel_rfl) hLi)))).symm.trans (un h)) (by simp)), (fun h => absurd (((hcl 8 7 (by kernel_rfl) (hcl 7 6 (by kernel_rfl) (hcl 6 1 (by kernel_rfl) (hcl 1 0 (by kernel_rfl) hLi))))).symm.trans (un h)) (by simp)), (fun h => absurd (((hcl 9 7 (by kernel_rfl) (hcl 7 6 (by kernel_rfl) (hcl 6 1 (by kernel_rfl) (hcl 1 0 (by kernel_rfl) hLi))))).symm.trans (un h)) (by simp)), (fun h h2 => (J.f10 (un h) (un h2))), (fun h => absurd (((hcl 11 8 (by kernel_rfl) (hcl 8 7 (by kernel_rfl) (hcl 7 6 (by kernel_rfl) (hcl 6 1 (by kernel_rfl) (hcl 1 0 (by kernel_rfl) hLi)))))).symm.trans (un h)) (by simp)), (fun h => absurd (((hcl 12 9 (by kernel_rfl) (hcl 9 7 (by kernel_rfl) (hcl 7 6 (by kernel_rfl) (hcl 6 1 (by kernel_rfl) (hcl 1 0 (by kernel_rfl) hLi)))))).symm.trans (un h)) (by simp)), (fun _ => hB), J.bb⟩⟩
      · skip
        have hN := (hcl 11 8 (by kernel_rfl) (hcl 8 7 (by kernel_rfl) (hcl 7 6 (by kernel_rfl) (hcl 6 1 (by kernel_rfl) hLi))))
        have hB := J.b hN
        obtain rfl := J.f0 (haft ⟨0, .data⟩ (by simp) rfl)
        go_simp
        go_wp2_with (go_at_call 23; refine (toTblTable_any _ t hn W (T0.out _ (k_trans HK.out hB))).mono ?_; rintro e W2 ⟨a', c', b', d', rfl, h1, h2, hb⟩)
        exact ⟨_, _, _, _, _, _, _, _, _, _, _, _, rfl, ⟨(fun h => J.f0 (un h)), (fun _ _ => ⟨a', c', b', d', _, rfl, h1, h2⟩), (fun h => J.f2 (un h)), (fun h => J.f3 (un h)), (fun h => J.f4 (un h)), (fun h => absurd (((hcl 5 1 (by kernel_rfl) hLi)).symm.trans (un h)) (by simp)), (fun h => absurd (((hcl 6 1 (by kernel_rfl) hLi)).symm.trans (un h)) (by simp)), (fun h => absurd (((hcl 7 6 (by kernel_rfl) (hcl 6 1 (by kernel_rfl) hLi))).symm.trans (un h)) (by simp)), (fun h => absurd (((hcl 8 7 (by kernel_rfl) (hcl 7 6 (by kernel_rfl) (hcl 6 1 (by kernel_rfl) hLi)))).symm.trans (un h)) (by simp)), (fun h => absurd (((hcl 9 7 (by kernel_rfl) (hcl 7 6 (by kernel_rfl) (hcl 6 1 (by kernel_rfl) hLi)))).symm.trans (un h)) (by simp)), (fun h h2 => ((J.f10 (un h) (un h2))).elim fun b h => ⟨b, h.1, h.2.1, box_kept h.2.2 hb⟩), (fun h => absurd (((hcl 11 8 (by kernel_rfl) (hcl 8 7 (by kernel_rfl) (hcl 7 6 (by kernel_rfl) (hcl 6 1 (by kernel_rfl) hLi))))).symm.trans (un h)) (by simp)), (fun h => absurd (((hcl 12 9 (by kernel_rfl) (hcl 9 7 (by kernel_rfl) (hcl 7 6 (by kernel_rfl) (hcl 6 1 (by kernel_rfl) hLi))))).symm.trans (un h)) (by simp)), (fun _ => k_trans hB hb), k_trans J.bb hb⟩⟩
      · skip
        have hN := (hcl 11 8 (by kernel_rfl) (hcl 8 7 (by kernel_rfl) (hcl 7 6 (by kernel_rfl) (hcl 6 2 (by kernel_rfl) hLi))))
        have hB := J.b hN
        go_simp
        exact hK _ _ ⟨_, _, _, _, _, _, _, _, _, _, _, _, rfl, ⟨(fun h => J.f0 (un h)), (fun h h2 => (J.f1 (un h) (un h2))), (fun _ => rfl), (fun h => J.f3 (un h)), (fun h => J.f4 (un h)), (fun h => J.f5 (un h)), (fun h => absurd (((hcl 6 2 (by kernel_rfl) hLi)).symm.trans (un h)) (by simp)), (fun h => absurd (((hcl 7 6 (by kernel_rfl) (hcl 6 2 (by kernel_rfl) hLi))).symm.trans (un h)) (by simp)), (fun h => absurd (((hcl 8 7 (by kernel_rfl) (hcl 7 6 (by kernel_rfl) (hcl 6 2 (by kernel_rfl) hLi)))).symm.trans (un h)) (by simp)), (fun h => absurd (((hcl 9 7 (by kernel_rfl) (hcl 7 6 (by kernel_rfl) (hcl 6 2 (by kernel_rfl) hLi)))).symm.trans (un h)) (by simp)), (fun h h2 => (J.f10 (un h) (un h2))), (fun h => absurd (((hcl 11 8 (by kernel_rfl) (hcl 8 7 (by kernel_rfl) (hcl 7 6 (by kernel_rfl) (hcl 6 2 (by kernel_rfl) hLi))))).symm.trans (un h)) (by simp)), (fun h => absurd (((hcl 12 9 (by kernel_rfl) (hcl 9 7 (by kernel_rfl) (hcl 7 6 (by kernel_rfl) (hcl 6 2 (by kernel_rfl) hLi))))).symm.trans (un h)) (by simp)), (fun _ => hB), J.bb⟩⟩
      · skip
        have hN := (hcl 11 8 (by kernel_rfl) (hcl 8 7 (by kernel_rfl) (hcl 7 6 (by kernel_rfl) (hcl 6 3 (by kernel_rfl) hLi))))
        have hB := J.b hN
        go_simp
        exact hK _ _ ⟨_, _, _, _, _, _, _, _, _, _, _, _, rfl, ⟨(fun h => J.f0 (un h)), (fun h h2 => (J.f1 (un h) (un h2))), (fun h => J.f2 (un h)), (fun _ => rfl), (fun h => J.f4 (un h)), (fun h => J.f5 (un h)), (fun h => absurd (((hcl 6 3 (by kernel_rfl) hLi)).symm.trans (un h)) (by simp)), (fun h => absurd (((hcl 7 6 (by kernel_rfl) (hcl 6 3 (by kernel_rfl) hLi))).symm.trans (un h)) (by simp)), (fun h => absurd (((hcl 8 7 (by kernel_rfl) (hcl 7 6 (by kernel_rfl) (hcl 6 3 (by kernel_rfl) hLi)))).symm.trans (un h)) (by simp)), (fun h => absurd (((hcl 9 7 (by kernel_rfl) (hcl 7 6 (by kernel_rfl) (hcl 6 3 (by kernel_rfl) hLi)))).symm.trans (un h)) (by simp)), (fun h h2 => (J.f10 (un h) (un h2))), (fun h => absurd (((hcl 11 8 (by kernel_rfl) (hcl 8 7 (by kernel_rfl) (hcl 7 6 (by kernel_rfl) (hcl 6 3 (by kernel_rfl) hLi))))).symm.trans (un h)) (by simp)), (fun h => absurd (((hcl 12 9 (by kernel_rfl) (hcl 9 7 (by kernel_rfl) (hcl 7 6 (by kernel_rfl) (hcl 6 3 (by kernel_rfl) hLi))))).symm.trans (un h)) (by simp)), (fun _ => hB), J.bb⟩⟩
      · skip
        have hN := (hcl 11 8 (by kernel_rfl) (hcl 8 7 (by kernel_rfl) (hcl 7 6 (by kernel_rfl) (hcl 6 5 (by kernel_rfl) (hcl 5 4 (by kernel_rfl) hLi)))))
        have hB := J.b hN
        obtain ⟨q0, q1', q2, q3, q4, q5, q6, q7, q8, q9, q10⟩ := elevenO ((hB.block _ lC).trans HC.out)
        go_simp
        exact hK _ _ ⟨_, _, _, _, _, _, _, _, _, _, _, _, rfl, ⟨(fun h => J.f0 (un h)), (fun h h2 => (J.f1 (un h) (un h2))), (fun h => J.f2 (un h)), (fun h => J.f3 (un h)), (fun _ => rfl), (fun h => absurd (((hcl 5 4 (by kernel_rfl) hLi)).symm.trans (un h)) (by simp)), (fun h => absurd (((hcl 6 5 (by kernel_rfl) (hcl 5 4 (by kernel_rfl) hLi))).symm.trans (un h)) (by simp)), (fun h => absurd (((hcl 7 6 (by kernel_rfl) (hcl 6 5 (by kernel_rfl) (hcl 5 4 (by kernel_rfl) hLi)))).symm.trans (un h)) (by simp)), (fun h => absurd (((hcl 8 7 (by kernel_rfl) (hcl 7 6 (by kernel_rfl) (hcl 6 5 (by kernel_rfl) (hcl 5 4 (by kernel_rfl) hLi))))).symm.trans (un h)) (by simp)), (fun h => absurd (((hcl 9 7 (by kernel_rfl) (hcl 7 6 (by kernel_rfl) (hcl 6 5 (by kernel_rfl) (hcl 5 4 (by kernel_rfl) hLi))))).symm.trans (un h)) (by simp)), (fun h h2 => (J.f10 (un h) (un h2))), (fun h => absurd (((hcl 11 8 (by kernel_rfl) (hcl 8 7 (by kernel_rfl) (hcl 7 6 (by kernel_rfl) (hcl 6 5 (by kernel_rfl) (hcl 5 4 (by kernel_rfl) hLi)))))).symm.trans (un h)) (by simp)), (fun h => absurd (((hcl 12 9 (by kernel_rfl) (hcl 9 7 (by kernel_rfl) (hcl 7 6 (by kernel_rfl) (hcl 6 5 (by kernel_rfl) (hcl 5 4 (by kernel_rfl) hLi)))))).symm.trans (un h)) (by simp)), (fun _ => hB), J.bb⟩⟩
      · skip
        have hN := (hcl 11 8 (by kernel_rfl) (hcl 8 7 (by kernel_rfl) (hcl 7 6 (by kernel_rfl) (hcl 6 5 (by kernel_rfl) hLi))))
        have hB := J.b hN
        obtain rfl := J.f4 (haft ⟨4, .data⟩ (by simp) rfl)
        go_simp
        go_wp2_with (go_at_call 24; refine (toTblCell_any _ _ _ _ _ _ _ _ _ _ _ W).mono ?_; rintro e W2 ⟨rfl, hb⟩)
        exact ⟨_, _, _, _, _, _, _, _, _, _, _, _, rfl, ⟨(fun h => J.f0 (un h)), (fun h h2 => ((J.f1 (un h) (un h2))).elim fun a' ⟨c', b', d', z', e, h1, h2⟩ => ⟨a', c', b', d', z', e, h1.kept hb, h2.kept hb⟩), (fun h => J.f2 (un h)), (fun h => J.f3 (un h)), (fun h => J.f4 (un h)), (fun _ => rfl), (fun h => absurd (((hcl 6 5 (by kernel_rfl) hLi)).symm.trans (un h)) (by simp)), (fun h => absurd (((hcl 7 6 (by kernel_rfl) (hcl 6 5 (by kernel_rfl) hLi))).symm.trans (un h)) (by simp)), (fun h => absurd (((hcl 8 7 (by kernel_rfl) (hcl 7 6 (by kernel_rfl) (hcl 6 5 (by kernel_rfl) hLi)))).symm.trans (un h)) (by simp)), (fun h => absurd (((hcl 9 7 (by kernel_rfl) (hcl 7 6 (by kernel_rfl) (hcl 6 5 (by kernel_rfl) hLi)))).symm.trans (un h)) (by simp)), (fun h h2 => ((J.f10 (un h) (un h2))).elim fun b h => ⟨b, h.1, h.2.1, box_kept h.2.2 hb⟩), (fun h => absurd (((hcl 11 8 (by kernel_rfl) (hcl 8 7 (by kernel_rfl) (hcl 7 6 (by kernel_rfl) (hcl 6 5 (by kernel_rfl) hLi))))).symm.trans (un h)) (by simp)), (fun h => absurd (((hcl 12 9 (by kernel_rfl) (hcl 9 7 (by kernel_rfl) (hcl 7 6 (by kernel_rfl) (hcl 6 5 (by kernel_rfl) hLi))))).symm.trans (un h)) (by simp)), (fun _ => k_trans hB hb), k_trans J.bb hb⟩⟩
      · skip
        have hN := (hcl 11 8 (by kernel_rfl) (hcl 8 7 (by kernel_rfl) (hcl 7 6 (by kernel_rfl) hLi)))
        have hB := J.b hN
        obtain ⟨a', c', b', d', z', rfl, h1, h2⟩ := J.f1 (haft ⟨1, .data⟩ (by simp) rfl) hLi
        obtain rfl := J.f2 (haft ⟨2, .data⟩ (by simp) rfl)
        obtain rfl := J.f3 (haft ⟨3, .data⟩ (by simp) rfl)
        obtain rfl := J.f5 (haft ⟨5, .data⟩ (by simp) rfl)
        go_simp
        go_wp2_with (go_at_call 22; refine (KSw.out W hB _ _ _ _ _ h1 h2).mono ?_; rintro e W2 ⟨p3, q3, r3, s3, u3, rfl, hu, hO, hb⟩)
        exact ⟨_, _, _, _, _, _, _, _, _, _, _, _, rfl, ⟨(fun h => J.f0 (un h)), (fun _ h => absurd (h.symm.trans upd_self) (by simp)), (fun h => J.f2 (un h)), (fun h => J.f3 (un h)), (fun h => J.f4 (un h)), (fun h => J.f5 (un h)), (fun _ => ⟨p3, q3, r3, s3, u3, _, _, rfl, hu, hB.size, hb.size, Nat.le_refl _, hO, fun b h9 e9 => .inl (by obtain ⟨b2, e2, _, h2'⟩ := J.f10 (un h9) (hcl 11 8 (by kernel_rfl) (hcl 8 7 (by kernel_rfl) (hcl 7 6 (by kernel_rfl) hLi))); rw [e2] at e9; simp only [Value.pointer.injEq, Option.some.injEq, Addr.mk.injEq, and_true] at e9; have h5 := (Array.getElem?_eq_some_iff.1 h2').1; omega)⟩), (fun h => absurd (((hcl 7 6 (by kernel_rfl) hLi)).symm.trans (un h)) (by simp)), (fun h => absurd (((hcl 8 7 (by kernel_rfl) (hcl 7 6 (by kernel_rfl) hLi))).symm.trans (un h)) (by simp)), (fun h => absurd (((hcl 9 7 (by kernel_rfl) (hcl 7 6 (by kernel_rfl) hLi))).symm.trans (un h)) (by simp)), (fun h h2 => ((J.f10 (un h) (un h2))).elim fun b h => ⟨b, h.1, h.2.1, box_kept h.2.2 hb⟩), (fun h => absurd (((hcl 11 8 (by kernel_rfl) (hcl 8 7 (by kernel_rfl) (hcl 7 6 (by kernel_rfl) hLi)))).symm.trans (un h)) (by simp)), (fun h => absurd (((hcl 12 9 (by kernel_rfl) (hcl 9 7 (by kernel_rfl) (hcl 7 6 (by kernel_rfl) hLi)))).symm.trans (un h)) (by simp)), (fun _ => k_trans hB hb), k_trans J.bb hb⟩⟩
      · skip
        have hN := (hcl 11 8 (by kernel_rfl) (hcl 8 7 (by kernel_rfl) hLi))
        have hB := J.b hN
        go_simp
        exact hK _ _ ⟨_, _, _, _, _, _, _, _, _, _, _, _, rfl, ⟨(fun h => J.f0 (un h)), (fun h h2 => (J.f1 (un h) (un h2))), (fun h => J.f2 (un h)), (fun h => J.f3 (un h)), (fun h => J.f4 (un h)), (fun h => J.f5 (un h)), (fun h => (J.f6 (un h))), (fun _ => rfl), (fun h => absurd (((hcl 8 7 (by kernel_rfl) hLi)).symm.trans (un h)) (by simp)), (fun h => absurd (((hcl 9 7 (by kernel_rfl) hLi)).symm.trans (un h)) (by simp)), (fun h h2 => (J.f10 (un h) (un h2))), (fun h => absurd (((hcl 11 8 (by kernel_rfl) (hcl 8 7 (by kernel_rfl) hLi))).symm.trans (un h)) (by simp)), (fun h => absurd (((hcl 12 9 (by kernel_rfl) (hcl 9 7 (by kernel_rfl) hLi))).symm.trans (un h)) (by simp)), (fun _ => hB), J.bb⟩⟩
      · skip
        have hN := (hcl 11 8 (by kernel_rfl) hLi)
        have hB := J.b hN
        have h12 : L 6 = true := eq_true_of_ne_false (fun h3 => by have h4 := hcl 7 6 (by kernel_rfl) h3; rw [(haft ⟨7, .data⟩ (by simp) rfl)] at h4; cases h4)
        obtain ⟨p3, q3, r3, s3, _, _, _, e3, _⟩ := J.f6 h12
        obtain rfl := J.f7 (haft ⟨7, .data⟩ (by simp) rfl)
        subst e3
        go_simp
        exact hK _ _ ⟨_, _, _, _, _, _, _, _, _, _, _, _, rfl, ⟨(fun h => J.f0 (un h)), (fun h h2 => (J.f1 (un h) (un h2))), (fun h => J.f2 (un h)), (fun h => J.f3 (un h)), (fun h => J.f4 (un h)), (fun h => J.f5 (un h)), (fun h => (J.f6 (un h))), (fun h => J.f7 (un h)), (fun _ => ⟨p3, q3, r3, s3, rfl, rfl⟩), (fun h => J.f9 (un h)), (fun h h2 => (J.f10 (un h) (un h2))), (fun h => absurd (((hcl 11 8 (by kernel_rfl) hLi)).symm.trans (un h)) (by simp)), (fun h => J.f12 (un h)), (fun _ => hB), J.bb⟩⟩
      · skip
        have h12 : L 6 = true := eq_true_of_ne_false (fun h3 => by have h4 := hcl 7 6 (by kernel_rfl) h3; rw [(haft ⟨7, .data⟩ (by simp) rfl)] at h4; cases h4)
        obtain ⟨p3, q3, r3, s3, _, _, _, e3, _⟩ := J.f6 h12
        obtain rfl := J.f7 (haft ⟨7, .data⟩ (by simp) rfl)
        subst e3
        go_simp
        exact hK _ _ ⟨_, _, _, _, _, _, _, _, _, _, _, _, rfl, ⟨(fun h => J.f0 (un h)), (fun h h2 => (J.f1 (un h) (un h2))), (fun h => J.f2 (un h)), (fun h => J.f3 (un h)), (fun h => J.f4 (un h)), (fun h => J.f5 (un h)), (fun h => (J.f6 (un h))), (fun h => J.f7 (un h)), (fun h => J.f8 (un h)), (fun _ => rfl), (fun h h2 => (J.f10 (un h) (un h2))), (fun h => J.f11 (un h)), (fun h => absurd (((hcl 12 9 (by kernel_rfl) hLi)).symm.trans (un h)) (by simp)), (fun h => J.b (un h)), J.bb⟩⟩
      · skip
        have hN := (hcl 11 10 (by kernel_rfl) hLi)
        have hB := J.b hN
        go_simp
        exact hK _ _ ⟨_, _, _, _, _, _, _, _, _, _, _, _, rfl, ⟨(fun h => J.f0 (un h)), (fun h h2 => ((J.f1 (un h) (un h2))).elim fun a' ⟨c', b', d', z', e, h1, h2⟩ => ⟨a', c', b', d', z', e, h1.kept (k_alloc (Below.refl _ _) _), h2.kept (k_alloc (Below.refl _ _) _)⟩), (fun h => J.f2 (un h)), (fun h => J.f3 (un h)), (fun h => J.f4 (un h)), (fun h => J.f5 (un h)), (fun h => ((J.f6 (un h))).elim fun p ⟨q, r', s, u, B, D, e, hu, h1, h12, h2, h3, h4⟩ => ⟨p, q, r', s, u, B, D, e, hu, h1, h12, Nat.le_trans h2 (by simp), h3.kept (k_alloc (Below.refl _ _) _), fun b _ eb => .inr (by simp only [Value.pointer.injEq, Option.some.injEq, Addr.mk.injEq, and_true] at eb; omega)⟩), (fun h => J.f7 (un h)), (fun h => J.f8 (un h)), (fun h => J.f9 (un h)), (fun _ _ => ⟨_, rfl, hB.size, newestB _ _⟩), (fun h => absurd (((hcl 11 10 (by kernel_rfl) hLi)).symm.trans (un h)) (by simp)), (fun h => J.f12 (un h)), (fun _ => k_alloc hB _), k_alloc J.bb _⟩⟩
      · skip
        have hN := hLi
        have hB := J.b hN
        obtain ⟨p3, q3, r3, s3, e3, rfl⟩ := J.f8 (haft ⟨8, .data⟩ (by simp) rfl)
        have hC : L 6 = true := eq_true_of_ne_false (fun h3 => by have h4 := hcl 8 7 (by kernel_rfl) (hcl 7 6 (by kernel_rfl) h3); rw [(haft ⟨8, .data⟩ (by simp) rfl)] at h4; cases h4)
        subst e3
        have hAl : L 10 = true := (haft ⟨10, .data⟩ (by simp) rfl)
        obtain ⟨b, rfl, hbw, hbk⟩ := J.f10 hAl hLi
        have hB := J.b hLi
        obtain ⟨q0, q1', q2, q3', q4⟩ := fiveO hbk
        have fz : ∀ o, W.frozen? ⟨b, o, none⟩ = false := fun o => freeB hbk
        go_simp
        exact hK _ _ ⟨_, _, _, _, _, _, _, _, _, _, _, _, rfl, ⟨(fun h => J.f0 (un h)), (fun h h2 => absurd ((un h2).symm.trans hC) (by simp)), (fun h => J.f2 (un h)), (fun h => J.f3 (un h)), (fun h => J.f4 (un h)), (fun h => J.f5 (un h)), (fun h => ((J.f6 (un h))).elim fun p ⟨q, r', s, u, B, D, e, hu, h1, h12, h2, h3, h4⟩ => ⟨p, q, r', s, u, B, D, e, hu, h1, h12, by simpa using h2, own_d5 h3 (h4 b hAl rfl) _ _ _ _ _, h4⟩), (fun h => J.f7 (un h)), (fun h => J.f8 (un h)), (fun h => J.f9 (un h)), (fun _ h => absurd (h.symm.trans upd_self) (by simp)), (fun _ => ⟨b, p3, q3, r3, s3, rfl, hbw, rfl, set5_is hbk _ _ _ _ _⟩), (fun h => J.f12 (un h)), (fun h => absurd (h.symm.trans upd_self) (by simp)), k_set (k_set (k_set (k_set (k_set J.bb hbw _) hbw _) hbw _) hbw _) hbw _⟩⟩
      · skip
        obtain rfl := J.f9 (haft ⟨9, .data⟩ (by simp) rfl)
        go_simp
        exact hK _ _ ⟨_, _, _, _, _, _, _, _, _, _, _, _, rfl, ⟨(fun h => J.f0 (un h)), (fun h h2 => (J.f1 (un h) (un h2))), (fun h => J.f2 (un h)), (fun h => J.f3 (un h)), (fun h => J.f4 (un h)), (fun h => J.f5 (un h)), (fun h => (J.f6 (un h))), (fun h => J.f7 (un h)), (fun h => J.f8 (un h)), (fun h => J.f9 (un h)), (fun h h2 => (J.f10 (un h) (un h2))), (fun h => J.f11 (un h)), (fun _ => rfl), (fun h => J.b (un h)), J.bb⟩⟩
  · have HL := Hid.intro (leftOf_neg (n := 1048576) (m := totT t) (by omega))
    go_enter Try.func5, Try.ntmps5
    go_upto_region 1 with fail
    generalize (w.alloc (.cells #[.slice ac t.cols.length cc, .int .i64 t.head, .int .i64 t.foot, .slice ar t.rows.length cr, .int .i64 t.gap] 46)).alloc (.cells #[.string x.s, .int .i64 x.c, .int .i64 x.r, .int .i64 x.a1, .int .i64 x.b1, .int .i64 x.a2, .int .i64 x.b2, .int .i64 x.a3, .int .i64 x.b3, .int .i64 x.a4, .int .i64 x.b4] 50) = W0 at HK HA ⊢
    obtain ⟨m0, m1, m2, m3, m4⟩ := fiveO HA.out
    go_wp2_with fail
    refine (szTblTable_any _ t _ (T0.out _ HK.out)).mono ?_
    rw [HL.out]
    rintro e w1 ⟨rfl, hb1⟩
    replace HK := Hid.intro (k_trans HK.out hb1)
    clear hb1 m0 m1 m2 m3 m4
    go_wp2
    go_ret
    exact ⟨rfl, HK.out⟩
theorem arr_of {cs : Array Value} {l : List Value} (h : cs.toList = l) : cs = l.toArray := by cases cs; simpa using h

set_option linter.unusedVariables false in
set_option maxRecDepth 100000 in
theorem lifted (os : Os) (started : os.Started) (H : Type) (enc : TypeId × Value → H) :
    ReturnsInHanded {} Try.checked os 5 .any (Rows.fnExactEdtPutSpec.pre6 enc Try.prog Try.f5 Rows.fnExactEdtPutRow.domain false) (Rows.fnExactEdtPutSpec.post enc Try.prog Try.f5 false true false false) := by
  refine returnsInHanded_of_change (C := Try.checked) own started (by kernel_rfl) Try.func5
    (ChangeSpec.witness6 (enc := enc) (C := Try.checked) false ⟨#[], #[.agg #[.slice none 0 0, .int .i64 0, .int .i64 0, .slice none 0 0, .int .i64 0], .int .i64 0, .int .i64 0, .agg #[.string ByteArray.empty, .int .i64 0, .int .i64 0, .int .i64 0, .int .i64 0, .int .i64 0, .int .i64 0, .int .i64 0, .int .i64 0, .int .i64 0, .int .i64 0]], []⟩ 8 (by kernel_rfl) (by kernel_rfl) (by kernel_rfl) (by kernel_rfl)) ?_
  intro W base args ds gs before hval0 hW hcnd _
  have hval : ∀ (j : Nat) t v, Try.f5.params[j]? = some t → args[j]? = some v → Value.okWide Try.prog W .any base t v := hval0
  have hW' := hW
  obtain ⟨p, q, hA0, hV, rfl, hfz, hnd⟩ := hW
  have hA : DataW.TrodAll enc Try.prog W 0 (fun _ => true) true Try.f5.params.toList args.toList ds p := hA0
  rw [Try.params5] at hA hval
  obtain ⟨v0, vs0, d0, ds0, p0, q0, hargs, rfl, rfl, h0, r0⟩ := trodAll_cons hA
  obtain ⟨v1, vs1, d1, ds1, p1, q1, rfl, rfl, rfl, h1, r1⟩ := trodAll_cons r0
  obtain ⟨v2, vs2, d2, ds2, p2, q2, rfl, rfl, rfl, h2, r2⟩ := trodAll_cons r1
  obtain ⟨v3, vs3, d3, ds3, p3, q3, rfl, rfl, rfl, h3, r3⟩ := trodAll_cons r2
  obtain ⟨rfl, rfl, rfl⟩ := trodAll_nil r3
  obtain rfl : args = #[v0, v1, v2, v3] := by cases args; simp_all
  obtain ⟨rfl, rfl⟩ := trodVars_none hV
  have k0 := h0
  have lt0 : ∀ x ∈ p0, x.block < W.heap.size := by obtain ⟨m, hm⟩ := k0; exact DataW.trod_lt m _ _ _ hm
  have k1 := h1
  have lt1 : ∀ x ∈ p1, x.block < W.heap.size := by obtain ⟨m, hm⟩ := k1; exact DataW.trod_lt m _ _ _ hm
  have k2 := h2
  have lt2 : ∀ x ∈ p2, x.block < W.heap.size := by obtain ⟨m, hm⟩ := k2; exact DataW.trod_lt m _ _ _ hm
  have k3 := h3
  have lt3 : ∀ x ∈ p3, x.block < W.heap.size := by obtain ⟨m, hm⟩ := k3; exact DataW.trod_lt m _ _ _ hm
  obtain ⟨cs0, rfl, hsz0⟩ := okWide_struct Try.underlying46 (hval 0 46 v0 rfl rfl)
  obtain ⟨fuel0, hf0⟩ := h0
  obtain ⟨t, ht⟩ := openTblL (by simpa [Value.cells] using hf0)
  obtain ⟨q1, rfl, rfl, rfl, wq1⟩ := open_int Try.underlying3 (hval 1 3 v1 rfl rfl) h1
  obtain ⟨q2, rfl, rfl, rfl, wq2⟩ := open_int Try.underlying3 (hval 2 3 v2 rfl rfl) h2
  obtain ⟨cs3, rfl, hsz3⟩ := okWide_struct Try.underlying50 (hval 3 50 v3 rfl rfl)
  obtain ⟨fuel3, hf3⟩ := h3
  obtain ⟨s, c, r, a1, b1, a2, b2, a3, b3, a4, b4, hs, hcs⟩ := openCellL hf3
  obtain rfl : cs3 = _ := arr_of (by simpa [Value.cells] using hcs)
  clear hA0 hval0
  refine (walk _ t q1 q2 (bounds_i64 wq1) ⟨s, c, r, a1, b1, a2, b2, a3, b3, a4, b4⟩ hs W (by simpa using ht)).mono fun e W' ⟨he, bel⟩ => ?_
  subst he
  exact ⟨_, rfl, _, _, _, [], _, [], hW', trodAll_mk1 (shut_bool Try.underlying4 _), (trodAll_cons_mk (Below.trod laidOut (by kernel_rfl) (of_decide_eq_true (by kernel_rfl)) k0 bel lt0) (trodAll_cons_mk (Below.trod laidOut (by kernel_rfl) (of_decide_eq_true (by kernel_rfl)) k1 bel lt1) (trodAll_cons_mk (Below.trod laidOut (by kernel_rfl) (of_decide_eq_true (by kernel_rfl)) k2 bel lt2) (trodAll_cons_mk (Below.trod laidOut (by kernel_rfl) (of_decide_eq_true (by kernel_rfl)) k3 bel lt3) trodAll_mk0)))), rfl, bel.frame _, fun h => by cases h⟩

theorem proved : Rows.FnExactEdtPutSaid :=
  OpenClaim.holds_of_wide 5 Try.f5 rfl rfl rfl rfl rfl rfl rfl ⟨rfl, rfl, rfl, rfl, rfl⟩ rfl rfl rfl rfl rfl (by kernel_rfl) Try.func5 (by kernel_rfl)
    (of_decide_eq_true (by kernel_rfl)) (by unfold Func.isWrapper; first | (rw [if_pos (by decide +kernel)]; kernel_rfl) | (rw [if_neg (by decide +kernel)]; exact ⟨rfl, rfl⟩))
    (fun os started H enc _ => lifted os started H enc)
#print axioms proved
end Go.Proofs.Ytggmjiddadjilao.fnExactEdtPut
