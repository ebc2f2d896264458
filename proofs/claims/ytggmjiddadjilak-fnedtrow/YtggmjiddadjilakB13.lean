/-
  PROVED HERE: what the model's EdtRow answers: of a table that is ok the table with a row without cells between, or the table as it is, in memory of its own; else nothing; nothing that was in memory is turned.
-/
import Derived.Test.YtggmjiddadjilakB8
import Derived.Test.YtggmjiddadjilakB4
import Derived.Test.YtggmjiddadjilakB6
import Derived.Test.YtggmjiddadjilakB7
import Derived.Test.YtggmjiddadjilakB12
import Derived.Test.YtggmjiddadjilakB3
namespace Go.Proofs.Ytggmjiddadjilak
open Go.RowKit

theorem news_own {w : World} {base : Nat} {v : Value} {ur : List (Value × R)} (h : OwnR w base v ur) {g cap n : Nat} (hv : v = .slice (some ⟨g, 0, none⟩) n cap) : ∀ W, Below w.heap.size w W → ∀ j u, (ur.flatMap rowVs)[j]? = some u → W.cell? ⟨g, j, none⟩ = some u := fun W hW j u hu => by
  rcases h.own.2 with ⟨e, _⟩ | ⟨g', cap', cur, e, hg, hc, a1, a2, a3, a4⟩
  · rw [hv] at e; simp at e
  · rw [hv] at e
    simp only [Value.slice.injEq, Option.some.injEq, Addr.mk.injEq, and_true] at e
    obtain ⟨rfl, _, rfl⟩ := e
    rw [← a4, List.getElem?_take] at hu
    split at hu
    · rw [Array.getElem?_toList] at hu
      exact (hW.cell (p := ⟨g, j, none⟩) (Array.getElem?_eq_some_iff.1 hc).1).trans ((cellB hc).trans hu)
    · cases hu
theorem one_rows {w : World} {base : Nat} {v : Value} {ur : List (Value × R)} (h : OwnR w base v ur) : ∀ u ∈ ur.flatMap rowVs, u.oneCell' = true := by
  intro u hu
  obtain ⟨p, hp, hu⟩ := List.mem_flatMap.1 hu
  obtain ⟨_, _, e, _⟩ := row_form (h.cells p hp)
  simp only [rowVs, List.mem_cons, List.not_mem_nil, or_false] at hu
  rcases hu with rfl | rfl
  · rw [e]; rfl
  · rfl
structure RsJ (xb yb g g2 k n c2 c4 : Nat) (A : Addr) (ux uy : List (Value × R)) (W3 : World) (L : Nat → Bool) (W : World) (v34 v35 v36 v37 v38 v39 v40 v41 v42 v43 v44 v45 v46 v47 v48 : Value) : Prop where
  f0 : L 0 = true → L 5 = false → ∃ q, v34 = .slice (some ⟨q, 0, none⟩) 0 0 ∧ W.heap[q]? = some (.cells #[] 37) ∧ W.ownsRow W3.heap.size 37 2 v34 0 []
  f1 : L 1 = true → v35 = .pointer (some ⟨xb, 3, none⟩)
  f2 : L 2 = true → v36 = .slice (some ⟨g, 0, none⟩) n c2
  f3 : L 3 = true → v37 = .int .i64 k
  f4 : L 4 = true → v38 = .slice (some ⟨g, 0, none⟩) k c2
  f5 : L 5 = true → L 8 = false → W.ownsRow W3.heap.size 37 2 v39 k ((ux.take k).flatMap rowVs)
  f6 : L 6 = true → v40 = .agg #[.slice none 0 0, .bool false]
  f7 : L 7 = true → L 8 = false → ∃ q, v41 = .slice (some ⟨q, 0, none⟩) 1 1 ∧ W.heap[q]? = some (.cells #[.slice none 0 0, .bool false] 37)
  f8 : L 8 = true → L 13 = false → W.ownsRow W3.heap.size 37 2 v42 (k + 1) ((ux.take k).flatMap rowVs ++ [.slice none 0 0, .bool false])
  f9 : L 9 = true → v43 = .pointer (some ⟨yb, 3, none⟩)
  f10 : L 10 = true → v44 = .slice (some ⟨g2, 0, none⟩) n c4
  f11 : L 11 = true → v45 = .int .i64 k
  f12 : L 12 = true → v46 = .slice (some A) (n - k) (c4 - k)
  f13 : L 13 = true → L 15 = false → ∃ ad c, v47 = .slice ad (k + 1 + (n - k)) c ∧ W.ownsRow W3.heap.size 37 2 v47 (k + 1 + (n - k)) ((ux.take k).flatMap rowVs ++ [.slice none 0 0, .bool false] ++ (uy.drop k).flatMap rowVs)
  f14 : L 14 = true → v48 = .pointer (some ⟨xb, 3, none⟩)
  f15 : L 15 = true → ∃ ad c W9, Below W3.heap.size W3 W9 ∧ W9.ownsRow W3.heap.size 37 2 (.slice ad (k + 1 + (n - k)) c) (k + 1 + (n - k)) ((ux.take k).flatMap rowVs ++ [.slice none 0 0, .bool false] ++ (uy.drop k).flatMap rowVs) ∧ W = W9.setCell ⟨xb, 3, none⟩ (.slice ad (k + 1 + (n - k)) c)
  b : L 15 = false → Below W3.heap.size W3 W
set_option maxRecDepth 100000 in
set_option maxHeartbeats 4000000 in
theorem specEdtRow (ac ar : Option Addr) (cc cr : Nat) (t : T) (at' : Int) (w : World) {z : Nat} (hc : ColsAt w z (.slice ac t.cols.length cc) t.cols) (hr : RowsAt w z (.slice ar t.rows.length cr) t.rows) :
    Calls Try.prog 6 #[.agg #[.slice ac t.cols.length cc, .int .i64 t.head, .int .i64 t.foot, .slice ar t.rows.length cr, .int .i64 t.gap], .int .i64 at'] w fun e w' => ∃ a1 c1 a2 c2 d1 d2, e = .returned (.tuple #[.agg #[.slice a1 d1 c1, .int .i64 (edRow t at').1.head, .int .i64 (edRow t at').1.foot, .slice a2 d2 c2, .int .i64 (edRow t at').1.gap], .bool (edRow t at').2]) ∧ OwnT w' w.heap.size (.slice a1 d1 c1) (.slice a2 d2 c2) (edRow t at').1 ∧ Below w.heap.size w w' := by
  obtain ⟨W0, hW0⟩ : ∃ W0, (w.alloc (.cells #[.slice ac t.cols.length cc, .int .i64 t.head, .int .i64 t.foot, .slice ar t.rows.length cr, .int .i64 t.gap] 26)).alloc (.cells #[.slice none 0 0, .int .i64 0, .int .i64 0, .slice none 0 0, .int .i64 0] 26) = W0 := ⟨_, rfl⟩
  have K0 : Below w.heap.size w W0 := by rw [← hW0]; exact k_alloc (k_alloc (Below.refl _ _) _) _
  have T0 : W0.heap[w.heap.size]? = some (.cells #[.slice ac t.cols.length cc, .int .i64 t.head, .int .i64 t.foot, .slice ar t.rows.length cr, .int .i64 t.gap] 26) := by rw [← hW0]; exact alloc_at (newestB _ _)
  have T4 : W0.heap[w.heap.size + 1]? = some (.cells #[.slice none 0 0, .int .i64 0, .int .i64 0, .slice none 0 0, .int .i64 0] 26) := by rw [← hW0]; exact alloc_new (by simp)
  have hsz : w.heap.size + 1 < W0.heap.size := (Array.getElem?_eq_some_iff.1 T4).1
  have KO := Hid.intro (specTblOk ac ar cc cr t W0 (hc.kept K0) (hr.kept K0))
  have HCA := Hid.intro hc
  have HRA := Hid.intro hr
  have HK0 := Hid.intro K0
  have HT0 := Hid.intro T0
  have HT4 := Hid.intro T4
  obtain ⟨b0, b1, b2, b3, b4⟩ := fiveO T0
  clear hc hr K0 T0 T4
  go_enter Try.func6, Try.ntmps6
  go_upto_region 1 with fail
  clear hW0
  have hl4 : w.heap.size ≤ w.heap.size + 1 := by omega
  generalize w.heap.size + 1 = bz at HT4 hsz hl4 ⊢
  cases htk : tblB t with
  | false =>
    rw [htk] at KO
    have HE : Hid (edRow t at' = (zT, false)) := by show _ = _; rw [edRow, if_neg (by rw [htk]; simp)]
    clear htk
    go_wp2_with fail
    refine KO.out.mono ?_
    rintro e w1 ⟨rfl, hb1⟩
    replace HT4 := Hid.intro ((hb1.block _ (Array.getElem?_eq_some_iff.1 HT4.out).1).trans HT4.out)
    replace HK0 := Hid.intro (k_trans HK0.out hb1)
    obtain ⟨d0, d1, d2, d3, d4⟩ := fiveO HT4.out
    have fz : ∀ p, w1.frozen? ⟨bz, p, none⟩ = false := fun p => freeB HT4.out
    clear hb1 KO b0 b1 b2 b3 b4
    go_wp2
    exact bodyPost_ret (v := .tuple #[.agg #[.slice none 0 0, .int .i64 0, .int .i64 0, .slice none 0 0, .int .i64 0], .bool false]) (by simp [results, Try.results6, go_sem, d0, d1, d2, d3, d4]) rfl ⟨none, 0, none, 0, 0, 0, by rw [HE.out]; rfl, by rw [HE.out]; exact ⟨[], rfl, ⟨rfl, .inl ⟨rfl, rfl⟩⟩, ⟨⟨rfl, .inl ⟨rfl, rfl⟩⟩, fun p hp => absurd hp (by simp), .nil⟩⟩, k_set (k_set (k_set (k_set (k_set HK0.out hl4 _) hl4 _) hl4 _) hl4 _) hl4 _⟩
  | true =>
    rw [htk] at KO
    have HEd : Hid (edRow t at' = if plcB t at' = true then (insT t at'.toNat, true) else (t, false)) := by show _ = _; rw [edRow, if_pos htk]
    obtain ⟨_, hr1, hb8, _⟩ := tbl_bounds htk
    have hbd : 0 ≤ t.head ∧ t.head ≤ t.rows.length ∧ 0 ≤ t.foot ∧ t.foot ≤ (t.rows.length : Int) - t.head := by
      simp only [tblB, partsB, inB, Bool.and_eq_true, decide_eq_true_eq] at htk
      omega
    have HCp := Hid.intro (fun W (h : Below w.heap.size w W) => specl2Copy ac ar cc cr t htk W (HCA.out.kept h) (HRA.out.kept h))
    clear htk
    go_wp2_with fail
    refine KO.out.mono ?_
    rintro e w1 ⟨rfl, hb1⟩
    replace HT0 := Hid.intro ((hb1.block _ (Array.getElem?_eq_some_iff.1 HT0.out).1).trans HT0.out)
    replace HT4 := Hid.intro ((hb1.block _ (Array.getElem?_eq_some_iff.1 HT4.out).1).trans HT4.out)
    replace HK0 := Hid.intro (k_trans HK0.out hb1)
    clear hb1 KO b0 b1 b2 b3 b4
    obtain ⟨b0, b1, b2, b3, b4⟩ := fiveO HT0.out
    have KC := Hid.intro (HCp.out w1 HK0.out)
    have hsz1 : bz < w1.heap.size := (Array.getElem?_eq_some_iff.1 HT4.out).1
    go_wp2_with fail
    refine KC.out.mono ?_
    rintro e w2 ⟨a1, c1, a2, c2, rfl, ⟨ur, hur, hOc, hOr⟩, hb2⟩
    replace HT0 := Hid.intro ((hb2.block _ (Array.getElem?_eq_some_iff.1 HT0.out).1).trans HT0.out)
    replace HT4 := Hid.intro ((hb2.block _ (Array.getElem?_eq_some_iff.1 HT4.out).1).trans HT4.out)
    replace HK0 := Hid.intro (k_trans HK0.out hb2)
    have Hur := Hid.intro hur
    have HOD := Hid.intro ((OwnD.of hOc hOr).kept (k_alloc (Below.refl _ _) (.cells #[.slice a1 t.cols.length c1, .int .i64 t.head, .int .i64 t.foot, .slice a2 t.rows.length c2, .int .i64 t.gap] 26)))
    replace HT0 := Hid.intro (alloc_at (o := (.cells #[.slice a1 t.cols.length c1, .int .i64 t.head, .int .i64 t.foot, .slice a2 t.rows.length c2, .int .i64 t.gap] 26)) HT0.out)
    replace HT4 := Hid.intro (alloc_at (o := (.cells #[.slice a1 t.cols.length c1, .int .i64 t.head, .int .i64 t.foot, .slice a2 t.rows.length c2, .int .i64 t.gap] 26)) HT4.out)
    replace HK0 := Hid.intro (k_alloc HK0.out (.cells #[.slice a1 t.cols.length c1, .int .i64 t.head, .int .i64 t.foot, .slice a2 t.rows.length c2, .int .i64 t.gap] 26))
    have HX : Hid ((w2.alloc (.cells #[.slice a1 t.cols.length c1, .int .i64 t.head, .int .i64 t.foot, .slice a2 t.rows.length c2, .int .i64 t.gap] 26)).heap[w2.heap.size]? = some (.cells #[.slice a1 t.cols.length c1, .int .i64 t.head, .int .i64 t.foot, .slice a2 t.rows.length c2, .int .i64 t.gap] 26)) := newestB _ _
    have hxW : w2.heap.size < (w2.alloc (.cells #[.slice a1 t.cols.length c1, .int .i64 t.head, .int .i64 t.foot, .slice a2 t.rows.length c2, .int .i64 t.gap] 26)).heap.size := by simp
    have hbx : bz < w2.heap.size := Nat.lt_of_lt_of_le hsz1 hb2.size
    clear hOc hOr hb2 hur KC b0 b1 b2 b3 b4
    go_upto_region 4 with fail
    generalize w2.alloc (.cells #[.slice a1 t.cols.length c1, .int .i64 t.head, .int .i64 t.foot, .slice a2 t.rows.length c2, .int .i64 t.gap] 26) = W1 at HT0 HT4 HK0 HX HOD hxW ⊢
    generalize w2.heap.size = xb at HX HOD hxW hbx ⊢
    generalize w1.heap.size = bB at HOD hsz1
    obtain ⟨b0, b1, b2, b3, b4⟩ := fiveO HT0.out
    have hsz := hsz1
    obtain ⟨_, _, _, hrlen⟩ := At.form HRA.out
    unfold maxLen at hrlen
    obtain ⟨hh0, hh1, hf0, hf1⟩ := hbd
    by_cases h8 : t.rows.length = 8
    · have HE : Hid (edRow t at' = (t, false)) := by
        show _ = _
        rw [HEd.out, if_neg (by unfold plcB; simp; omega)]
      have h8b : ((t.rows.length : Int) = 8) = True := by simp; omega
      clear HEd h8
      obtain ⟨x0, x1, x2, x3, x4⟩ := fiveO HX.out
      obtain ⟨d0, d1, d2, d3, d4⟩ := fiveO HT4.out
      have fz : ∀ p, W1.frozen? ⟨bz, p, none⟩ = false := fun p => freeB HT4.out
      go_wp2
      exact bodyPost_ret (v := .tuple #[.agg #[.slice a1 t.cols.length c1, .int .i64 t.head, .int .i64 t.foot, .slice a2 t.rows.length c2, .int .i64 t.gap], .bool false]) (by simp [results, Try.results6, go_sem, d0, d1, d2, d3, d4]) rfl ⟨a1, c1, a2, c2, _, _, by rw [HE.out], by rw [HE.out]; exact OwnT.base (OwnT.since (own_lt HOD.out rfl Hur.out) (Since.set (Since.set (Since.set (Since.set (Since.set (Since.refl _ _) (p := ⟨bz, 0, none⟩) hsz _) (p := ⟨bz, 1, none⟩) hsz _) (p := ⟨bz, 2, none⟩) hsz _) (p := ⟨bz, 3, none⟩) hsz _) (p := ⟨bz, 4, none⟩) hsz _)) (by omega), k_set (k_set (k_set (k_set (k_set HK0.out hl4 _) hl4 _) hl4 _) hl4 _) hl4 _⟩
    · have h8b : ((t.rows.length : Int) = 8) = False := by simp; omega
      cases hin : inB at' t.head ((t.rows.length : Int) - t.foot) with
      | false =>
        have KI := Hid.intro (fun W => l1In_any at' t.head ((t.rows.length : Int) - t.foot) W)
        rw [hin] at KI
        have HE : Hid (edRow t at' = (t, false)) := by
          show _ = _
          rw [HEd.out, if_neg (by unfold plcB; rw [hin]; simp)]
        clear hin HEd
        go_wp2_with fail
        refine (KI.out _).mono ?_
        rintro e w3 ⟨rfl, e3⟩
        subst e3
        obtain ⟨x0, x1, x2, x3, x4⟩ := fiveO HX.out
        obtain ⟨d0, d1, d2, d3, d4⟩ := fiveO HT4.out
        have fz : ∀ p, w3.frozen? ⟨bz, p, none⟩ = false := fun p => freeB HT4.out
        go_wp2
        exact bodyPost_ret (v := .tuple #[.agg #[.slice a1 t.cols.length c1, .int .i64 t.head, .int .i64 t.foot, .slice a2 t.rows.length c2, .int .i64 t.gap], .bool false]) (by simp [results, Try.results6, go_sem, d0, d1, d2, d3, d4]) rfl ⟨a1, c1, a2, c2, _, _, by rw [HE.out], by rw [HE.out]; exact OwnT.base (OwnT.since (own_lt HOD.out rfl Hur.out) (Since.set (Since.set (Since.set (Since.set (Since.set (Since.refl _ _) (p := ⟨bz, 0, none⟩) hsz _) (p := ⟨bz, 1, none⟩) hsz _) (p := ⟨bz, 2, none⟩) hsz _) (p := ⟨bz, 3, none⟩) hsz _) (p := ⟨bz, 4, none⟩) hsz _)) (by omega), k_set (k_set (k_set (k_set (k_set HK0.out hl4 _) hl4 _) hl4 _) hl4 _) hl4 _⟩
      | true =>
        obtain ⟨k, rfl⟩ : ∃ k : Nat, at' = k := ⟨at'.toNat, by simp only [inB, decide_eq_true_eq] at hin; omega⟩
        have hkl : k ≤ t.rows.length := by simp only [inB, decide_eq_true_eq] at hin; omega
        have KI := Hid.intro (fun W => l1In_any (k : Int) t.head ((t.rows.length : Int) - t.foot) W)
        rw [hin] at KI
        have HE : Hid (edRow t (k : Int) = (insT t k, true)) := by
          show _ = _
          rw [HEd.out, if_pos (by unfold plcB; rw [hin]; simp; omega), Int.toNat_natCast]
        clear hin HEd
        go_wp2_with fail
        refine (KI.out _).mono ?_
        rintro e w3 ⟨rfl, e3⟩
        subst e3
        clear KI
        have KC2 := Hid.intro (HCp.out w3 HK0.out)
        go_wp2_with fail
        refine KC2.out.mono ?_
        rintro e w5 ⟨a3, c3, a4, c4, rfl, ⟨uy, huy, hOc2, hOr2⟩, hb5⟩
        have hs35 := hb5.size
        replace HT4 := Hid.intro (alloc_at (o := (.cells #[.slice a3 t.cols.length c3, .int .i64 t.head, .int .i64 t.foot, .slice a4 t.rows.length c4, .int .i64 t.gap] 26)) ((hb5.block _ (Array.getElem?_eq_some_iff.1 HT4.out).1).trans HT4.out))
        replace HX := Hid.intro (alloc_at (o := (.cells #[.slice a3 t.cols.length c3, .int .i64 t.head, .int .i64 t.foot, .slice a4 t.rows.length c4, .int .i64 t.gap] 26)) ((hb5.block _ (Array.getElem?_eq_some_iff.1 HX.out).1).trans HX.out))
        replace HK0 := Hid.intro (k_alloc (k_trans HK0.out hb5) (.cells #[.slice a3 t.cols.length c3, .int .i64 t.head, .int .i64 t.foot, .slice a4 t.rows.length c4, .int .i64 t.gap] 26))
        have hODb : ∀ p ∈ ur, ∀ b, p.1.ownBlock = some b → b < w3.heap.size := fun p hp b e => (row_lt (HOD.out.2.1.cells p hp) e).2
        have hul : ur.length = t.rows.length := by rw [← Hur.out, List.length_map]
        have hBB : bB ≤ w3.heap.size := by
          obtain ⟨_, _, _, _, _, _, hq1, hq2, _⟩ := own_get HOD.out.2.1 (i := 0) (List.getElem?_eq_getElem (by omega))
          omega
        have HUl := Hid.intro hul
        clear hul
        replace HOD := Hid.intro ((HOD.out.kept hb5).kept (k_alloc (Below.refl _ _) (.cells #[.slice a3 t.cols.length c3, .int .i64 t.head, .int .i64 t.foot, .slice a4 t.rows.length c4, .int .i64 t.gap] 26)))
        have HOY := Hid.intro (hOr2.kept (k_alloc (Below.refl _ _) (.cells #[.slice a3 t.cols.length c3, .int .i64 t.head, .int .i64 t.foot, .slice a4 t.rows.length c4, .int .i64 t.gap] 26)))
        have HY : Hid ((w5.alloc (.cells #[.slice a3 t.cols.length c3, .int .i64 t.head, .int .i64 t.foot, .slice a4 t.rows.length c4, .int .i64 t.gap] 26)).heap[w5.heap.size]? = some (.cells #[.slice a3 t.cols.length c3, .int .i64 t.head, .int .i64 t.foot, .slice a4 t.rows.length c4, .int .i64 t.gap] 26)) := newestB _ _
        have Huy := Hid.intro huy
        have HODb := Hid.intro hODb
        clear hb5 KC2 HCp b0 b1 b2 b3 b4 hOc2 hOr2 huy hODb
        go_upto_region 7 with fail
        generalize w5.alloc (.cells #[.slice a3 t.cols.length c3, .int .i64 t.head, .int .i64 t.foot, .slice a4 t.rows.length c4, .int .i64 t.gap] 26) = W6 at HT4 HX HK0 HOD HOY HY ⊢
        generalize w5.heap.size = yb at HY hs35 ⊢
        generalize w3.heap.size = b3' at HOY hs35 HODb hBB
        have hul := HUl.out
        have hyl : uy.length = t.rows.length := by rw [← Huy.out, List.length_map]
        obtain ⟨g, cg, _, ev, hg1, hg2, hgl, hgB, harr, _, _, _⟩ := own_get HOD.out.2.1 (i := 0) (List.getElem?_eq_getElem (by omega))
        rw [hul] at ev hg1
        simp only [Value.slice.injEq, true_and] at ev
        obtain ⟨rfl, rfl⟩ := ev
        obtain ⟨g2, cg2, _, ev, hy1, hy2, hyl2, hyB, _, _, _, _⟩ := own_get HOY.out (i := 0) (List.getElem?_eq_getElem (by omega))
        rw [hyl] at ev hy1
        simp only [Value.slice.injEq, true_and] at ev
        obtain ⟨rfl, rfl⟩ := ev
        clear harr
        have hNy := news_own HOY.out rfl
        obtain ⟨A, hA, hnews⟩ : ∃ A : Addr, (if c4 = k then some (⟨g2, 0, none⟩ : Addr) else some ⟨g2, k * 2, none⟩) = some A ∧ ∀ W, Below W6.heap.size W6 W → ∀ j u, ((uy.drop k).flatMap rowVs)[j]? = some u → W.cell? (A.add j) = some u := by
          by_cases hca : c4 = k
          · refine ⟨⟨g2, 0, none⟩, by rw [if_pos hca], fun W _ j u hu => ?_⟩
            have : uy.drop k = [] := List.drop_eq_nil_of_le (by omega)
            rw [this] at hu
            simp at hu
          · refine ⟨⟨g2, k * 2, none⟩, by rw [if_neg hca], fun W hW j u hu => ?_⟩
            have hcut : uy.flatMap rowVs = (uy.take k).flatMap rowVs ++ (uy.drop k).flatMap rowVs := by rw [← List.flatMap_append, List.take_append_drop]
            have hl0 : ((uy.take k).flatMap rowVs).length = k * 2 := by rw [flat_len rowVs 2 (fun _ => rfl), List.length_take, Nat.min_eq_left (by omega)]
            have h9 := hNy W hW (k * 2 + j) u (by rw [hcut, List.getElem?_append_right (by rw [hl0]; omega), hl0, Nat.add_sub_cancel_left]; exact hu)
            have e9 : Addr.add ⟨g2, k * 2, none⟩ j = ⟨g2, k * 2 + j, none⟩ := by
              simp only [Addr.add]
              by_cases hj : j = 0
              · rw [if_pos hj, hj]; rfl
              · rw [if_neg hj]
            rw [e9]
            exact h9
        have hNx := news_own HOD.out.2.1 rfl
        have HNt : Hid (∀ W, Below W6.heap.size W6 W → ∀ j u, ((ur.take k).flatMap rowVs)[j]? = some u → W.cell? (Addr.add ⟨g, 0, none⟩ j) = some u) := fun W hW j u hu => by
          have hcut : ur.flatMap rowVs = (ur.take k).flatMap rowVs ++ (ur.drop k).flatMap rowVs := by rw [← List.flatMap_append, List.take_append_drop]
          have h9 := hNx W hW j u (by rw [hcut, List.getElem?_append_left (List.getElem?_eq_some_iff.1 hu).1]; exact hu)
          have e9 : Addr.add ⟨g, 0, none⟩ j = ⟨g, j, none⟩ := by
            simp only [Addr.add]
            by_cases hj : j = 0
            · rw [if_pos hj, hj]
            · rw [if_neg hj, Nat.zero_add]
          rw [e9]
          exact h9
        have HAd := Hid.intro hA
        have HNd := Hid.intro hnews
        have HLt : Hid (((ur.take k).flatMap rowVs).length = k * 2) := by show _ = _; rw [flat_len rowVs 2 (fun _ => rfl), List.length_take, Nat.min_eq_left (by omega)]
        have HLd : Hid (((uy.drop k).flatMap rowVs).length = (t.rows.length - k) * 2) := by show _ = _; rw [flat_len rowVs 2 (fun _ => rfl), List.length_drop, hyl]
        have H1x : Hid (∀ u ∈ (ur.take k).flatMap rowVs, u.oneCell' = true) := fun u hu => one_rows HOD.out.2.1 u (by obtain ⟨p, hp, hu⟩ := List.mem_flatMap.1 hu; exact List.mem_flatMap.2 ⟨p, List.mem_of_mem_take hp, hu⟩)
        have H1y : Hid (∀ u ∈ (uy.drop k).flatMap rowVs, u.oneCell' = true) := fun u hu => one_rows HOY.out u (by obtain ⟨p, hp, hu⟩ := List.mem_flatMap.1 hu; exact List.mem_flatMap.2 ⟨p, List.mem_of_mem_drop hp, hu⟩)
        have hxl : xb < W6.heap.size := (Array.getElem?_eq_some_iff.1 HX.out).1
        have hyl3 : yb < W6.heap.size := (Array.getElem?_eq_some_iff.1 HY.out).1
        have hxz : xb ≠ bz := by omega
        have hxw : w.heap.size ≤ xb := by omega
        have HOF : Hid (∀ W9 a9 c9, Below W6.heap.size W6 W9 → W9.ownsRow W6.heap.size 37 2 (.slice a9 (k + 1 + (t.rows.length - k)) c9) (k + 1 + (t.rows.length - k)) ((ur.take k).flatMap rowVs ++ [.slice none 0 0, .bool false] ++ (uy.drop k).flatMap rowVs) → OwnT (W9.setCell ⟨xb, 3, none⟩ (.slice a9 (k + 1 + (t.rows.length - k)) c9)) bB (.slice a1 t.cols.length c1) (.slice a9 (k + 1 + (t.rows.length - k)) c9) (insT t k)) := fun W9 a9 c9 hk hO => by
          have h9 := own_ins (k := k) HOD.out.1 HOD.out.2.1 HOY.out hBB HODb.out hk (by omega) (m := k + 1 + (t.rows.length - k)) (by rw [List.length_append, List.length_cons, List.length_take, List.length_drop, hul, hyl]; omega) (by rw [List.flatMap_append, List.flatMap_cons, ← List.append_assoc]; exact hO) ((hk.block xb hxl).trans HX.out) 3 (.slice a9 (k + 1 + (t.rows.length - k)) c9)
          refine ⟨_, ?_, h9.1, h9.2⟩
          show _ = t.rows.take k ++ ⟨[], false⟩ :: t.rows.drop k
          rw [List.map_append, List.map_cons, List.map_take, List.map_drop, Hur.out, Huy.out]
        obtain ⟨i2, hi2, hw0, hw1, hw2⟩ := info_parts infoRown
        have hmx : Try.prog.follows .mixedOrders = true := by kernel_rfl
        have hkc : k ≤ c2 := by omega
        have hkc4 : k ≤ c4 := by omega
        have hkI : (k : Int) ≤ (t.rows.length : Int) := by omega
        unfold maxLen at hg2 hy2
        clear hnews hA hNx hNy HOD HOY HODb
        refine wp_region_inv2 (fun L act W => ∃ v34 v35 v36 v37 v38 v39 v40 v41 v42 v43 v44 v45 v46 v47 v48 : Value, act = ⟨#[.agg #[.slice ac t.cols.length cc, .int .i64 t.head, .int .i64 t.foot, .slice ar t.rows.length cr, .int .i64 t.gap], .int .i64 k, .pointer (some ⟨w.heap.size, 0, none⟩), undef, .pointer (some ⟨bz, 0, none⟩), .bool false, .pointer (some ⟨xb, 0, none⟩), .pointer (some ⟨yb, 0, none⟩), .agg #[.slice ac t.cols.length cc, .int .i64 t.head, .int .i64 t.foot, .slice ar t.rows.length cr, .int .i64 t.gap], .bool true, .bool false, undef, .agg #[.slice ac t.cols.length cc, .int .i64 t.head, .int .i64 t.foot, .slice ar t.rows.length cr, .int .i64 t.gap], .agg #[.slice a1 t.cols.length c1, .int .i64 t.head, .int .i64 t.foot, .slice (some ⟨g, 0, none⟩) t.rows.length c2, .int .i64 t.gap], .pointer (some ⟨w.heap.size, 3, none⟩), .slice ar t.rows.length cr, .int .i64 t.rows.length, .bool false, .bool false, .int .i64 k, .pointer (some ⟨w.heap.size, 1, none⟩), .int .i64 t.head, .pointer (some ⟨w.heap.size, 3, none⟩), .slice ar t.rows.length cr, .int .i64 t.rows.length, .pointer (some ⟨w.heap.size, 2, none⟩), .int .i64 t.foot, .int .i64 ((t.rows.length : Int) - t.foot), .bool true, .bool false, .bool false, undef, .agg #[.slice ac t.cols.length cc, .int .i64 t.head, .int .i64 t.foot, .slice ar t.rows.length cr, .int .i64 t.gap], .agg #[.slice a3 t.cols.length c3, .int .i64 t.head, .int .i64 t.foot, .slice (some ⟨g2, 0, none⟩) t.rows.length c4, .int .i64 t.gap], v34, v35, v36, v37, v38, v39, v40, v41, v42, v43, v44, v45, v46, v47, v48, undef], []⟩ ∧ RsJ xb yb g g2 k t.rows.length c2 c4 A ur uy W6 L W v34 v35 v36 v37 v38 v39 v40 v41 v42 v43 v44 v45 v46 v47 v48) hmx (by kernel_rfl) ?hs ?hd ?h0
        case h0 => exact ⟨_, _, _, _, _, _, _, _, _, _, _, _, _, _, _, rfl, ⟨(fun h => by cases h), (fun h => by cases h), (fun h => by cases h), (fun h => by cases h), (fun h => by cases h), (fun h => by cases h), (fun h => by cases h), (fun h => by cases h), (fun h => by cases h), (fun h => by cases h), (fun h => by cases h), (fun h => by cases h), (fun h => by cases h), (fun h => by cases h), (fun h => by cases h), (fun h => by cases h), (fun _ => k_drew (Below.refl _ _))⟩⟩
        case hd =>
          intro L act W hJ hall
          obtain ⟨v34, v35, v36, v37, v38, v39, v40, v41, v42, v43, v44, v45, v46, v47, v48, ha, J⟩ := hJ
          subst ha
          obtain ⟨a9, c9, W9, hB9, hC9, hW9⟩ := J.f15 (hall 15 (by decide))
          clear J hall
          have HOw := Hid.intro (HOF.out W9 a9 c9 hB9 hC9)
          have HK4 := Hid.intro ((k_trans HK0.out hB9).setCell (p := ⟨xb, 3, none⟩) hxw (.slice a9 (k + 1 + (t.rows.length - k)) c9))
          have HZ4 := Hid.intro ((Below.heap_setCell W9 ⟨xb, 3, none⟩ (.slice a9 (k + 1 + (t.rows.length - k)) c9) bz (by dsimp only; exact fun e => hxz e.symm)).trans ((hB9.block bz (Array.getElem?_eq_some_iff.1 HT4.out).1).trans HT4.out))
          have HX4 : Hid ((W9.setCell ⟨xb, 3, none⟩ (.slice a9 (k + 1 + (t.rows.length - k)) c9)).heap[xb]? = some (.cells #[.slice a1 t.cols.length c1, .int .i64 t.head, .int .i64 t.foot, .slice a9 (k + 1 + (t.rows.length - k)) c9, .int .i64 t.gap] 26)) := setB ((hB9.block xb hxl).trans HX.out) _
          rw [← hW9] at HOw HK4 HZ4 HX4
          clear hB9 hC9 hW9
          obtain ⟨x0, x1, x2, x3, x4⟩ := fiveO HX4.out
          obtain ⟨d0, d1, d2, d3, d4⟩ := fiveO HZ4.out
          have fz : ∀ p, W.frozen? ⟨bz, p, none⟩ = false := fun p => freeB HZ4.out
          go_wp2
          exact bodyPost_ret (v := .tuple #[.agg #[.slice a1 t.cols.length c1, .int .i64 t.head, .int .i64 t.foot, .slice a9 (k + 1 + (t.rows.length - k)) c9, .int .i64 t.gap], .bool true]) (by simp [results, Try.results6, go_sem, d0, d1, d2, d3, d4]) rfl ⟨a1, c1, a9, c9, _, _, by rw [HE.out]; rfl, by rw [HE.out]; exact OwnT.base (OwnT.since (HOw.out) (Since.set (Since.set (Since.set (Since.set (Since.set (Since.refl _ _) (p := ⟨bz, 0, none⟩) hsz _) (p := ⟨bz, 1, none⟩) hsz _) (p := ⟨bz, 2, none⟩) hsz _) (p := ⟨bz, 3, none⟩) hsz _) (p := ⟨bz, 4, none⟩) hsz _)) (by omega), k_set (k_set (k_set (k_set (k_set HK4.out hl4 _) hl4 _) hl4 _) hl4 _) hl4 _⟩
        case hs =>
          intro L act W i o hJ hcl ho hLi haft K hK
          obtain ⟨v34, v35, v36, v37, v38, v39, v40, v41, v42, v43, v44, v45, v46, v47, v48, ha, J⟩ := hJ
          subst ha
          have hi' : i < 16 := by
            have := (Array.getElem?_eq_some_iff.1 ho).1
            simpa using this
          rcases (by omega : i = 0 ∨ i = 1 ∨ i = 2 ∨ i = 3 ∨ i = 4 ∨ i = 5 ∨ i = 6 ∨ i = 7 ∨ i = 8 ∨ i = 9 ∨ i = 10 ∨ i = 11 ∨ i = 12 ∨ i = 13 ∨ i = 14 ∨ i = 15) with rfl | rfl | rfl | rfl | rfl | rfl | rfl | rfl | rfl | rfl | rfl | rfl | rfl | rfl | rfl | rfl
          all_goals
            simp only [List.getElem?_toArray, List.getElem?_cons_zero, List.getElem?_cons_succ, Option.some.injEq] at ho
            subst ho
            clear hi'
          · skip
            have hN := (hcl 15 13 (by kernel_rfl) (hcl 13 8 (by kernel_rfl) (hcl 8 5 (by kernel_rfl) (hcl 5 0 (by kernel_rfl) hLi))))
            have hB := J.b hN
            go_simp
            exact hK _ _ ⟨_, _, _, _, _, _, _, _, _, _, _, _, _, _, _, rfl, ⟨(fun _ _ => ⟨_, rfl, newestB _ _, World.ownsRow_made W #[] 0 hB.size (Nat.zero_le _) (by simp)⟩), (fun h => J.f1 (un h)), (fun h => J.f2 (un h)), (fun h => J.f3 (un h)), (fun h => J.f4 (un h)), (fun h _ => absurd (((hcl 5 0 (by kernel_rfl) hLi)).symm.trans (un h)) (by simp)), (fun h => J.f6 (un h)), (fun h h2 => (let ⟨q, e, hq⟩ := (J.f7 (un h) (un h2)); ⟨q, e, alloc_at hq⟩)), (fun h _ => absurd (((hcl 8 5 (by kernel_rfl) (hcl 5 0 (by kernel_rfl) hLi))).symm.trans (un h)) (by simp)), (fun h => J.f9 (un h)), (fun h => J.f10 (un h)), (fun h => J.f11 (un h)), (fun h => J.f12 (un h)), (fun h _ => absurd (((hcl 13 8 (by kernel_rfl) (hcl 8 5 (by kernel_rfl) (hcl 5 0 (by kernel_rfl) hLi)))).symm.trans (un h)) (by simp)), (fun h => J.f14 (un h)), (fun h => absurd (((hcl 15 13 (by kernel_rfl) (hcl 13 8 (by kernel_rfl) (hcl 8 5 (by kernel_rfl) (hcl 5 0 (by kernel_rfl) hLi))))).symm.trans (un h)) (by simp)), (fun _ => k_alloc hB _)⟩⟩
          · skip
            have hN := (hcl 15 13 (by kernel_rfl) (hcl 13 8 (by kernel_rfl) (hcl 8 5 (by kernel_rfl) (hcl 5 4 (by kernel_rfl) (hcl 4 2 (by kernel_rfl) (hcl 2 1 (by kernel_rfl) hLi))))))
            have hB := J.b hN
            go_simp
            exact hK _ _ ⟨_, _, _, _, _, _, _, _, _, _, _, _, _, _, _, rfl, ⟨(fun h h2 => (J.f0 (un h) (un h2))), (fun _ => rfl), (fun h => absurd (((hcl 2 1 (by kernel_rfl) hLi)).symm.trans (un h)) (by simp)), (fun h => J.f3 (un h)), (fun h => absurd (((hcl 4 2 (by kernel_rfl) (hcl 2 1 (by kernel_rfl) hLi))).symm.trans (un h)) (by simp)), (fun h _ => absurd (((hcl 5 4 (by kernel_rfl) (hcl 4 2 (by kernel_rfl) (hcl 2 1 (by kernel_rfl) hLi)))).symm.trans (un h)) (by simp)), (fun h => J.f6 (un h)), (fun h h2 => (J.f7 (un h) (un h2))), (fun h _ => absurd (((hcl 8 5 (by kernel_rfl) (hcl 5 4 (by kernel_rfl) (hcl 4 2 (by kernel_rfl) (hcl 2 1 (by kernel_rfl) hLi))))).symm.trans (un h)) (by simp)), (fun h => J.f9 (un h)), (fun h => J.f10 (un h)), (fun h => J.f11 (un h)), (fun h => J.f12 (un h)), (fun h _ => absurd (((hcl 13 8 (by kernel_rfl) (hcl 8 5 (by kernel_rfl) (hcl 5 4 (by kernel_rfl) (hcl 4 2 (by kernel_rfl) (hcl 2 1 (by kernel_rfl) hLi)))))).symm.trans (un h)) (by simp)), (fun h => J.f14 (un h)), (fun h => absurd (((hcl 15 13 (by kernel_rfl) (hcl 13 8 (by kernel_rfl) (hcl 8 5 (by kernel_rfl) (hcl 5 4 (by kernel_rfl) (hcl 4 2 (by kernel_rfl) (hcl 2 1 (by kernel_rfl) hLi))))))).symm.trans (un h)) (by simp)), (fun _ => hB)⟩⟩
          · skip
            have hN := (hcl 15 13 (by kernel_rfl) (hcl 13 8 (by kernel_rfl) (hcl 8 5 (by kernel_rfl) (hcl 5 4 (by kernel_rfl) (hcl 4 2 (by kernel_rfl) hLi)))))
            have hB := J.b hN
            obtain rfl := J.f1 (haft ⟨1, .data⟩ (by simp) rfl)
            obtain ⟨q0, q1, q2, q3, q4⟩ := fiveO ((hB.block _ hxl).trans HX.out)
            have hl := Nat.lt_of_lt_of_le hxl hB.size
            go_simp
            exact hK _ _ ⟨_, _, _, _, _, _, _, _, _, _, _, _, _, _, _, rfl, ⟨(fun h h2 => (J.f0 (un h) (un h2))), (fun h => J.f1 (un h)), (fun _ => rfl), (fun h => J.f3 (un h)), (fun h => absurd (((hcl 4 2 (by kernel_rfl) hLi)).symm.trans (un h)) (by simp)), (fun h _ => absurd (((hcl 5 4 (by kernel_rfl) (hcl 4 2 (by kernel_rfl) hLi))).symm.trans (un h)) (by simp)), (fun h => J.f6 (un h)), (fun h h2 => (J.f7 (un h) (un h2))), (fun h _ => absurd (((hcl 8 5 (by kernel_rfl) (hcl 5 4 (by kernel_rfl) (hcl 4 2 (by kernel_rfl) hLi)))).symm.trans (un h)) (by simp)), (fun h => J.f9 (un h)), (fun h => J.f10 (un h)), (fun h => J.f11 (un h)), (fun h => J.f12 (un h)), (fun h _ => absurd (((hcl 13 8 (by kernel_rfl) (hcl 8 5 (by kernel_rfl) (hcl 5 4 (by kernel_rfl) (hcl 4 2 (by kernel_rfl) hLi))))).symm.trans (un h)) (by simp)), (fun h => J.f14 (un h)), (fun h => absurd (((hcl 15 13 (by kernel_rfl) (hcl 13 8 (by kernel_rfl) (hcl 8 5 (by kernel_rfl) (hcl 5 4 (by kernel_rfl) (hcl 4 2 (by kernel_rfl) hLi)))))).symm.trans (un h)) (by simp)), (fun _ => hB)⟩⟩
          · skip
            have hN := (hcl 15 13 (by kernel_rfl) (hcl 13 8 (by kernel_rfl) (hcl 8 5 (by kernel_rfl) (hcl 5 4 (by kernel_rfl) (hcl 4 3 (by kernel_rfl) hLi)))))
            have hB := J.b hN
            go_simp
            exact hK _ _ ⟨_, _, _, _, _, _, _, _, _, _, _, _, _, _, _, rfl, ⟨(fun h h2 => (J.f0 (un h) (un h2))), (fun h => J.f1 (un h)), (fun h => J.f2 (un h)), (fun _ => rfl), (fun h => absurd (((hcl 4 3 (by kernel_rfl) hLi)).symm.trans (un h)) (by simp)), (fun h _ => absurd (((hcl 5 4 (by kernel_rfl) (hcl 4 3 (by kernel_rfl) hLi))).symm.trans (un h)) (by simp)), (fun h => J.f6 (un h)), (fun h h2 => (J.f7 (un h) (un h2))), (fun h _ => absurd (((hcl 8 5 (by kernel_rfl) (hcl 5 4 (by kernel_rfl) (hcl 4 3 (by kernel_rfl) hLi)))).symm.trans (un h)) (by simp)), (fun h => J.f9 (un h)), (fun h => J.f10 (un h)), (fun h => J.f11 (un h)), (fun h => J.f12 (un h)), (fun h _ => absurd (((hcl 13 8 (by kernel_rfl) (hcl 8 5 (by kernel_rfl) (hcl 5 4 (by kernel_rfl) (hcl 4 3 (by kernel_rfl) hLi))))).symm.trans (un h)) (by simp)), (fun h => J.f14 (un h)), (fun h => absurd (((hcl 15 13 (by kernel_rfl) (hcl 13 8 (by kernel_rfl) (hcl 8 5 (by kernel_rfl) (hcl 5 4 (by kernel_rfl) (hcl 4 3 (by kernel_rfl) hLi)))))).symm.trans (un h)) (by simp)), (fun _ => hB)⟩⟩
          · skip
            have hN := (hcl 15 13 (by kernel_rfl) (hcl 13 8 (by kernel_rfl) (hcl 8 5 (by kernel_rfl) (hcl 5 4 (by kernel_rfl) hLi))))
            have hB := J.b hN
            obtain rfl := J.f2 (haft ⟨2, .data⟩ (by simp) rfl)
            obtain rfl := J.f3 (haft ⟨3, .data⟩ (by simp) rfl)
            go_simp
            exact hK _ _ ⟨_, _, _, _, _, _, _, _, _, _, _, _, _, _, _, rfl, ⟨(fun h h2 => (J.f0 (un h) (un h2))), (fun h => J.f1 (un h)), (fun h => J.f2 (un h)), (fun h => J.f3 (un h)), (fun _ => rfl), (fun h _ => absurd (((hcl 5 4 (by kernel_rfl) hLi)).symm.trans (un h)) (by simp)), (fun h => J.f6 (un h)), (fun h h2 => (J.f7 (un h) (un h2))), (fun h _ => absurd (((hcl 8 5 (by kernel_rfl) (hcl 5 4 (by kernel_rfl) hLi))).symm.trans (un h)) (by simp)), (fun h => J.f9 (un h)), (fun h => J.f10 (un h)), (fun h => J.f11 (un h)), (fun h => J.f12 (un h)), (fun h _ => absurd (((hcl 13 8 (by kernel_rfl) (hcl 8 5 (by kernel_rfl) (hcl 5 4 (by kernel_rfl) hLi)))).symm.trans (un h)) (by simp)), (fun h => J.f14 (un h)), (fun h => absurd (((hcl 15 13 (by kernel_rfl) (hcl 13 8 (by kernel_rfl) (hcl 8 5 (by kernel_rfl) (hcl 5 4 (by kernel_rfl) hLi))))).symm.trans (un h)) (by simp)), (fun _ => hB)⟩⟩
          · skip
            have hN := (hcl 15 13 (by kernel_rfl) (hcl 13 8 (by kernel_rfl) (hcl 8 5 (by kernel_rfl) hLi)))
            have hB := J.b hN
            obtain ⟨q5, rfl, hq5, hO⟩ := J.f0 (haft ⟨0, .data⟩ (by simp) rfl) hLi
            obtain rfl := J.f4 (haft ⟨4, .data⟩ (by simp) rfl)
            rw [if_pos (by rfl)]
            refine wp_append_src _ (.tmp 34) (.tmp 38) 24 rfl W6.heap.size 37 i2 _ 2 32 Try.underlying24 hi2 hw0 hw1 hw2 rfl (by decide) _ _ _ rfl hO (some ⟨g, 0, none⟩) k c2 ((ur.take k).flatMap rowVs) rfl (fun _ => by simp) HLt.out (fun q hq => by simp only [Option.some.injEq] at hq; subst hq; exact HNt.out W hB) H1x.out (by unfold maxLen; omega) (by omega) hB.size ?_
            intro v' w5 hown' hgrow'
            rw [Nat.zero_add, List.nil_append] at hown'
            exact hK _ _ ⟨_, _, _, _, _, _, _, _, _, _, _, _, _, _, _, rfl, ⟨(fun _ h => absurd (h.symm.trans upd_self) (by simp)), (fun h => J.f1 (un h)), (fun h => J.f2 (un h)), (fun h => J.f3 (un h)), (fun h => J.f4 (un h)), (fun _ _ => hown'), (fun h => J.f6 (un h)), (fun h h2 => (let ⟨q, e, hq⟩ := (J.f7 (un h) (un h2)); ⟨q, e, (hgrow'.block q (Array.getElem?_eq_some_iff.1 hq).1 (fun e2 => by have e3 : some q = some q5 := e2; simp only [Option.some.injEq] at e3; subst e3; rw [hq5] at hq; simp at hq)).trans hq⟩)), (fun h _ => absurd (((hcl 8 5 (by kernel_rfl) hLi)).symm.trans (un h)) (by simp)), (fun h => J.f9 (un h)), (fun h => J.f10 (un h)), (fun h => J.f11 (un h)), (fun h => J.f12 (un h)), (fun h _ => absurd (((hcl 13 8 (by kernel_rfl) (hcl 8 5 (by kernel_rfl) hLi))).symm.trans (un h)) (by simp)), (fun h => J.f14 (un h)), (fun h => absurd (((hcl 15 13 (by kernel_rfl) (hcl 13 8 (by kernel_rfl) (hcl 8 5 (by kernel_rfl) hLi)))).symm.trans (un h)) (by simp)), (fun _ => hB.grown hgrow' hB.size (fun q hq => (hO.lt q hq).1))⟩⟩
          · skip
            have hN := (hcl 15 13 (by kernel_rfl) (hcl 13 8 (by kernel_rfl) (hcl 8 7 (by kernel_rfl) (hcl 7 6 (by kernel_rfl) hLi))))
            have hB := J.b hN
            go_simp
            exact hK _ _ ⟨_, _, _, _, _, _, _, _, _, _, _, _, _, _, _, rfl, ⟨(fun h h2 => (J.f0 (un h) (un h2))), (fun h => J.f1 (un h)), (fun h => J.f2 (un h)), (fun h => J.f3 (un h)), (fun h => J.f4 (un h)), (fun h h2 => (J.f5 (un h) (un h2))), (fun _ => rfl), (fun h _ => absurd (((hcl 7 6 (by kernel_rfl) hLi)).symm.trans (un h)) (by simp)), (fun h _ => absurd (((hcl 8 7 (by kernel_rfl) (hcl 7 6 (by kernel_rfl) hLi))).symm.trans (un h)) (by simp)), (fun h => J.f9 (un h)), (fun h => J.f10 (un h)), (fun h => J.f11 (un h)), (fun h => J.f12 (un h)), (fun h _ => absurd (((hcl 13 8 (by kernel_rfl) (hcl 8 7 (by kernel_rfl) (hcl 7 6 (by kernel_rfl) hLi)))).symm.trans (un h)) (by simp)), (fun h => J.f14 (un h)), (fun h => absurd (((hcl 15 13 (by kernel_rfl) (hcl 13 8 (by kernel_rfl) (hcl 8 7 (by kernel_rfl) (hcl 7 6 (by kernel_rfl) hLi))))).symm.trans (un h)) (by simp)), (fun _ => hB)⟩⟩
          · skip
            have hN := (hcl 15 13 (by kernel_rfl) (hcl 13 8 (by kernel_rfl) (hcl 8 7 (by kernel_rfl) hLi)))
            have hB := J.b hN
            obtain rfl := J.f6 (haft ⟨6, .data⟩ (by simp) rfl)
            go_simp
            exact hK _ _ ⟨_, _, _, _, _, _, _, _, _, _, _, _, _, _, _, rfl, ⟨(fun h h2 => (let ⟨q, e, hq, o⟩ := (J.f0 (un h) (un h2)); ⟨q, e, alloc_at hq, row_alloc o _⟩)), (fun h => J.f1 (un h)), (fun h => J.f2 (un h)), (fun h => J.f3 (un h)), (fun h => J.f4 (un h)), (fun h h2 => row_alloc (J.f5 (un h) (un h2)) _), (fun h => J.f6 (un h)), (fun _ _ => ⟨_, rfl, newestB _ _⟩), (fun h _ => absurd (((hcl 8 7 (by kernel_rfl) hLi)).symm.trans (un h)) (by simp)), (fun h => J.f9 (un h)), (fun h => J.f10 (un h)), (fun h => J.f11 (un h)), (fun h => J.f12 (un h)), (fun h _ => absurd (((hcl 13 8 (by kernel_rfl) (hcl 8 7 (by kernel_rfl) hLi))).symm.trans (un h)) (by simp)), (fun h => J.f14 (un h)), (fun h => absurd (((hcl 15 13 (by kernel_rfl) (hcl 13 8 (by kernel_rfl) (hcl 8 7 (by kernel_rfl) hLi)))).symm.trans (un h)) (by simp)), (fun _ => k_alloc hB _)⟩⟩
          · skip
            have hN := (hcl 15 13 (by kernel_rfl) (hcl 13 8 (by kernel_rfl) hLi))
            have hB := J.b hN
            have h5 : L 5 = true := (haft ⟨5, .data⟩ (by simp) rfl)
            have hO := J.f5 h5 hLi
            obtain ⟨q7, rfl, hq7⟩ := J.f7 (haft ⟨7, .data⟩ (by simp) rfl) hLi
            rw [if_pos (by rfl)]
            refine wp_append_src _ (.tmp 39) (.tmp 41) 24 rfl W6.heap.size 37 i2 _ 2 32 Try.underlying24 hi2 hw0 hw1 hw2 rfl (by decide) _ _ _ rfl hO (some ⟨q7, 0, none⟩) 1 1 [.slice none 0 0, .bool false] rfl (fun _ => by simp) rfl (fun q hq => by simp only [Option.some.injEq] at hq; subst hq; exact news_at hq7) (by simp [Value.oneCell']) (by unfold maxLen; omega) (by omega) hB.size ?_
            intro v' w5 hown' hgrow'
            exact hK _ _ ⟨_, _, _, _, _, _, _, _, _, _, _, _, _, _, _, rfl, ⟨(fun h h2 => absurd ((un h2).symm.trans h5) (by simp)), (fun h => J.f1 (un h)), (fun h => J.f2 (un h)), (fun h => J.f3 (un h)), (fun h => J.f4 (un h)), (fun _ h => absurd (h.symm.trans upd_self) (by simp)), (fun h => J.f6 (un h)), (fun _ h => absurd (h.symm.trans upd_self) (by simp)), (fun _ _ => hown'), (fun h => J.f9 (un h)), (fun h => J.f10 (un h)), (fun h => J.f11 (un h)), (fun h => J.f12 (un h)), (fun h _ => absurd (((hcl 13 8 (by kernel_rfl) hLi)).symm.trans (un h)) (by simp)), (fun h => J.f14 (un h)), (fun h => absurd (((hcl 15 13 (by kernel_rfl) (hcl 13 8 (by kernel_rfl) hLi))).symm.trans (un h)) (by simp)), (fun _ => hB.grown hgrow' hB.size (fun q hq => (hO.lt q hq).1))⟩⟩
          · skip
            have hN := (hcl 15 13 (by kernel_rfl) (hcl 13 12 (by kernel_rfl) (hcl 12 10 (by kernel_rfl) (hcl 10 9 (by kernel_rfl) hLi))))
            have hB := J.b hN
            go_simp
            exact hK _ _ ⟨_, _, _, _, _, _, _, _, _, _, _, _, _, _, _, rfl, ⟨(fun h h2 => (J.f0 (un h) (un h2))), (fun h => J.f1 (un h)), (fun h => J.f2 (un h)), (fun h => J.f3 (un h)), (fun h => J.f4 (un h)), (fun h h2 => (J.f5 (un h) (un h2))), (fun h => J.f6 (un h)), (fun h h2 => (J.f7 (un h) (un h2))), (fun h h2 => (J.f8 (un h) (un h2))), (fun _ => rfl), (fun h => absurd (((hcl 10 9 (by kernel_rfl) hLi)).symm.trans (un h)) (by simp)), (fun h => J.f11 (un h)), (fun h => absurd (((hcl 12 10 (by kernel_rfl) (hcl 10 9 (by kernel_rfl) hLi))).symm.trans (un h)) (by simp)), (fun h _ => absurd (((hcl 13 12 (by kernel_rfl) (hcl 12 10 (by kernel_rfl) (hcl 10 9 (by kernel_rfl) hLi)))).symm.trans (un h)) (by simp)), (fun h => J.f14 (un h)), (fun h => absurd (((hcl 15 13 (by kernel_rfl) (hcl 13 12 (by kernel_rfl) (hcl 12 10 (by kernel_rfl) (hcl 10 9 (by kernel_rfl) hLi))))).symm.trans (un h)) (by simp)), (fun _ => hB)⟩⟩
          · skip
            have hN := (hcl 15 13 (by kernel_rfl) (hcl 13 12 (by kernel_rfl) (hcl 12 10 (by kernel_rfl) hLi)))
            have hB := J.b hN
            obtain rfl := J.f9 (haft ⟨9, .data⟩ (by simp) rfl)
            obtain ⟨q0, q1, q2, q3, q4⟩ := fiveO ((hB.block _ hyl3).trans HY.out)
            have hl := Nat.lt_of_lt_of_le hyl3 hB.size
            go_simp
            exact hK _ _ ⟨_, _, _, _, _, _, _, _, _, _, _, _, _, _, _, rfl, ⟨(fun h h2 => (J.f0 (un h) (un h2))), (fun h => J.f1 (un h)), (fun h => J.f2 (un h)), (fun h => J.f3 (un h)), (fun h => J.f4 (un h)), (fun h h2 => (J.f5 (un h) (un h2))), (fun h => J.f6 (un h)), (fun h h2 => (J.f7 (un h) (un h2))), (fun h h2 => (J.f8 (un h) (un h2))), (fun h => J.f9 (un h)), (fun _ => rfl), (fun h => J.f11 (un h)), (fun h => absurd (((hcl 12 10 (by kernel_rfl) hLi)).symm.trans (un h)) (by simp)), (fun h _ => absurd (((hcl 13 12 (by kernel_rfl) (hcl 12 10 (by kernel_rfl) hLi))).symm.trans (un h)) (by simp)), (fun h => J.f14 (un h)), (fun h => absurd (((hcl 15 13 (by kernel_rfl) (hcl 13 12 (by kernel_rfl) (hcl 12 10 (by kernel_rfl) hLi)))).symm.trans (un h)) (by simp)), (fun _ => hB)⟩⟩
          · skip
            have hN := (hcl 15 13 (by kernel_rfl) (hcl 13 12 (by kernel_rfl) (hcl 12 11 (by kernel_rfl) hLi)))
            have hB := J.b hN
            go_simp
            exact hK _ _ ⟨_, _, _, _, _, _, _, _, _, _, _, _, _, _, _, rfl, ⟨(fun h h2 => (J.f0 (un h) (un h2))), (fun h => J.f1 (un h)), (fun h => J.f2 (un h)), (fun h => J.f3 (un h)), (fun h => J.f4 (un h)), (fun h h2 => (J.f5 (un h) (un h2))), (fun h => J.f6 (un h)), (fun h h2 => (J.f7 (un h) (un h2))), (fun h h2 => (J.f8 (un h) (un h2))), (fun h => J.f9 (un h)), (fun h => J.f10 (un h)), (fun _ => rfl), (fun h => absurd (((hcl 12 11 (by kernel_rfl) hLi)).symm.trans (un h)) (by simp)), (fun h _ => absurd (((hcl 13 12 (by kernel_rfl) (hcl 12 11 (by kernel_rfl) hLi))).symm.trans (un h)) (by simp)), (fun h => J.f14 (un h)), (fun h => absurd (((hcl 15 13 (by kernel_rfl) (hcl 13 12 (by kernel_rfl) (hcl 12 11 (by kernel_rfl) hLi)))).symm.trans (un h)) (by simp)), (fun _ => hB)⟩⟩
          · skip
            have hN := (hcl 15 13 (by kernel_rfl) (hcl 13 12 (by kernel_rfl) hLi))
            have hB := J.b hN
            obtain rfl := J.f10 (haft ⟨10, .data⟩ (by simp) rfl)
            obtain rfl := J.f11 (haft ⟨11, .data⟩ (by simp) rfl)
            go_simp
            exact hK _ _ ⟨_, _, _, _, _, _, _, _, _, _, _, _, _, _, _, rfl, ⟨(fun h h2 => (J.f0 (un h) (un h2))), (fun h => J.f1 (un h)), (fun h => J.f2 (un h)), (fun h => J.f3 (un h)), (fun h => J.f4 (un h)), (fun h h2 => (J.f5 (un h) (un h2))), (fun h => J.f6 (un h)), (fun h h2 => (J.f7 (un h) (un h2))), (fun h h2 => (J.f8 (un h) (un h2))), (fun h => J.f9 (un h)), (fun h => J.f10 (un h)), (fun h => J.f11 (un h)), (fun _ => by first | rfl | rw [HAd.out]), (fun h _ => absurd (((hcl 13 12 (by kernel_rfl) hLi)).symm.trans (un h)) (by simp)), (fun h => J.f14 (un h)), (fun h => absurd (((hcl 15 13 (by kernel_rfl) (hcl 13 12 (by kernel_rfl) hLi))).symm.trans (un h)) (by simp)), (fun _ => hB)⟩⟩
          · skip
            have hN := (hcl 15 13 (by kernel_rfl) hLi)
            have hB := J.b hN
            have h8 : L 8 = true := (haft ⟨8, .data⟩ (by simp) rfl)
            have h5 : L 5 = true := eq_true_of_ne_false (fun h3 => by have h4 := hcl 8 5 (by kernel_rfl) h3; rw [h8] at h4; cases h4)
            have hO := J.f8 h8 hLi
            obtain rfl := J.f12 (haft ⟨12, .data⟩ (by simp) rfl)
            rw [if_pos (by rfl)]
            refine wp_append_src _ (.tmp 42) (.tmp 46) 24 rfl W6.heap.size 37 i2 _ 2 32 Try.underlying24 hi2 hw0 hw1 hw2 rfl (by decide) _ _ _ rfl hO (some A) (t.rows.length - k) (c4 - k) ((uy.drop k).flatMap rowVs) rfl (fun _ => by simp) HLd.out (fun q hq => by simp only [Option.some.injEq] at hq; subst hq; exact HNd.out W hB) H1y.out (by unfold maxLen; omega) (by omega) hB.size ?_
            intro v' w5 hown' hgrow'
            obtain ⟨a9, c9, rfl, _⟩ := row_form hown'
            exact hK _ _ ⟨_, _, _, _, _, _, _, _, _, _, _, _, _, _, _, rfl, ⟨(fun h h2 => absurd ((un h2).symm.trans h5) (by simp)), (fun h => J.f1 (un h)), (fun h => J.f2 (un h)), (fun h => J.f3 (un h)), (fun h => J.f4 (un h)), (fun h h2 => absurd ((un h2).symm.trans h8) (by simp)), (fun h => J.f6 (un h)), (fun h h2 => absurd ((un h2).symm.trans h8) (by simp)), (fun _ h => absurd (h.symm.trans upd_self) (by simp)), (fun h => J.f9 (un h)), (fun h => J.f10 (un h)), (fun h => J.f11 (un h)), (fun h => J.f12 (un h)), (fun _ _ => ⟨a9, c9, rfl, hown'⟩), (fun h => J.f14 (un h)), (fun h => absurd (((hcl 15 13 (by kernel_rfl) hLi)).symm.trans (un h)) (by simp)), (fun _ => hB.grown hgrow' hB.size (fun q hq => (hO.lt q hq).1))⟩⟩
          · skip
            have hN := (hcl 15 14 (by kernel_rfl) hLi)
            have hB := J.b hN
            go_simp
            exact hK _ _ ⟨_, _, _, _, _, _, _, _, _, _, _, _, _, _, _, rfl, ⟨(fun h h2 => (J.f0 (un h) (un h2))), (fun h => J.f1 (un h)), (fun h => J.f2 (un h)), (fun h => J.f3 (un h)), (fun h => J.f4 (un h)), (fun h h2 => (J.f5 (un h) (un h2))), (fun h => J.f6 (un h)), (fun h h2 => (J.f7 (un h) (un h2))), (fun h h2 => (J.f8 (un h) (un h2))), (fun h => J.f9 (un h)), (fun h => J.f10 (un h)), (fun h => J.f11 (un h)), (fun h => J.f12 (un h)), (fun h h2 => (J.f13 (un h) (un h2))), (fun _ => rfl), (fun h => absurd (((hcl 15 14 (by kernel_rfl) hLi)).symm.trans (un h)) (by simp)), (fun _ => hB)⟩⟩
          · skip
            have hN := hLi
            have hB := J.b hN
            have h13 : L 13 = true := (haft ⟨13, .data⟩ (by simp) rfl)
            have h8 : L 8 = true := eq_true_of_ne_false (fun h3 => by have h4 := hcl 13 8 (by kernel_rfl) h3; rw [h13] at h4; cases h4)
            have h5 : L 5 = true := eq_true_of_ne_false (fun h3 => by have h4 := hcl 8 5 (by kernel_rfl) h3; rw [h8] at h4; cases h4)
            have hB := J.b hLi
            obtain ⟨a9, c9, rfl, hC⟩ := J.f13 h13 hLi
            obtain rfl := J.f14 (haft ⟨14, .data⟩ (by simp) rfl)
            have hbk := (hB.block _ hxl).trans HX.out
            obtain ⟨y0, y1, y2, y3, y4⟩ := fiveO hbk
            have fz := freeB (p := 3) hbk
            go_simp
            exact hK _ _ ⟨_, _, _, _, _, _, _, _, _, _, _, _, _, _, _, rfl, ⟨(fun h h2 => absurd ((un h2).symm.trans h5) (by simp)), (fun h => J.f1 (un h)), (fun h => J.f2 (un h)), (fun h => J.f3 (un h)), (fun h => J.f4 (un h)), (fun h h2 => absurd ((un h2).symm.trans h8) (by simp)), (fun h => J.f6 (un h)), (fun h h2 => absurd ((un h2).symm.trans h8) (by simp)), (fun h h2 => absurd ((un h2).symm.trans h13) (by simp)), (fun h => J.f9 (un h)), (fun h => J.f10 (un h)), (fun h => J.f11 (un h)), (fun h => J.f12 (un h)), (fun _ h => absurd (h.symm.trans upd_self) (by simp)), (fun h => J.f14 (un h)), (fun _ => ⟨a9, c9, W, hB, hC, rfl⟩), (fun h => absurd (h.symm.trans upd_self) (by simp))⟩⟩
end Go.Proofs.Ytggmjiddadjilak
